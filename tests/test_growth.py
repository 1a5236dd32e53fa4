"""Growth from a shelf to a greater one: promise [64]."""

import random

from feedreader.errors import BadShelf
from feedreader.pages import Entry
from feedreader.shelves import Shelf, growth
from tests import shelf_oracle
from tests.cases import RefusalCase
from tests.objects import ODD_OBJECTS
from tests.shelf_oracle import ADDRESSES, fill, some_moves, some_sightings

A, B, C, D = ADDRESSES
X, Y = Entry(told="x"), Entry(told="y")
X2 = Entry(told="x", text="t")
XY = Entry(told="x", link="//g/1")
PX, PY = (A, "told", "x"), (A, "told", "y")


def gone(told):
    """A notice without a date."""
    return ("told", told, None)


class GrowthTest(RefusalCase):
    def check(self, lesser, more, expected, lesser_moves=(), moves=()):
        """Checks the growth of a shelf by more sightings and moves."""
        one = fill(Shelf(), lesser, lesser_moves)
        self.assertEqual(growth(lesser=one, greater=fill(one.merged(), more, moves)), expected)

    def test_new(self):
        self.check([], [(A, X, 5), (B, Y, 6)], (((), Y, ("new",)), ((), X, ("new",))))
        self.check([], [(A, X, 5), (A, gone("x"), 5)], (((), X, ("new", "gone")),))
        self.check([], [], ())

    def test_nothing_new(self):
        self.check([(A, X, 5)], [(A, X, 5), (A, X, 4)], (((PX,), X, ()),))
        self.check([(A, X, 5), (A, gone("x"), 6)], [(A, gone("y"), 6)], (((PX,), X, ()),))
        self.check([(A, X, 5)], [], (((PX,), X, ()),), moves=[(A, B)])

    def test_joined(self):
        link = Entry(link="//g/1")
        self.check([(A, X, 5), (A, link, 6)], [(A, XY, 4)], ((((A, "link", "//g/1"), PX), link, ("joined",)),))
        self.check([(B, X, 5), (A, X, 6)], [], (((PX, (B, "told", "x")), X, ("joined",)),), moves=[(C, A), (C, B)])

    def test_newer(self):
        self.check([(A, X, 5)], [(A, X2, 6)], (((PX,), X2, ("newer",)),))
        self.check([(A, X, 5)], [(A, X2, 4)], (((PX,), X, ()),))
        # A version that is older than was known can make another one the newest.
        self.check([(A, X2, 9), (A, X, 6)], [(A, X2, 5)], (((PX,), X, ("newer",)),))
        self.check([(A, X, 9), (B, X2, 6)], [], (((PX, (B, "told", "x")), X, ("joined",)),), moves=[(A, B)])
        third = Entry(told="x", text="z")
        self.check([(A, X, 9), (B, X2, 6)], [(B, third, 10)], (((PX, (B, "told", "x")), third, ("joined", "newer")),), moves=[(A, B)])

    def test_the_version_of_any_old_one_is_not_newer(self):
        self.check([(A, X, 5), (B, X2, 6), (B, gone("x"), 6)], [], (((PX, (B, "told", "x")), X2, ("joined", "gone")),), moves=[(A, B)])

    def test_gone(self):
        self.check([(A, X, 5)], [(A, gone("x"), 6)], (((PX,), X, ("gone",)),))
        self.check([(A, X, 5), (A, gone("x"), 6)], [(A, gone("x"), 5)], (((PX,), X, ()),))
        self.check([(A, X, 5)], [(A, X2, 6), (A, gone("x"), 6)], (((PX,), X2, ("newer", "gone")),))
        self.check([(A, X, 5), (A, gone("x"), 6), (B, X, 5)], [], (((PX, (B, "told", "x")), X, ("joined", "gone")),), moves=[(A, B)])
        self.check([(A, X, 5), (A, gone("x"), 6), (B, X, 5), (B, gone("x"), 5)], [], (((PX, (B, "told", "x")), X, ("joined",)),), moves=[(A, B)])

    def test_back(self):
        known = [(A, X, 5), (A, gone("x"), 6)]
        self.check(known, [(A, X2, 7)], (((PX,), X2, ("newer", "back")),))
        self.check(known, [(A, gone("x"), 4)], (((PX,), X, ("back",)),))
        both = known + [(B, X, 6), (B, gone("x"), 6)]
        self.check(both, [(B, X2, 7)], (((PX, (B, "told", "x")), X2, ("joined", "newer", "back")),), moves=[(A, B)])
        self.check(known + [(B, X, 7)], [(B, X2, 8)], (((PX, (B, "told", "x")), X2, ("joined", "newer")),), moves=[(A, B)])

    def test_new_and_gone_is_not_back(self):
        self.check([(A, gone("x"), 4)], [(A, X, 5)], (((), X, ("new",)),))

    def test_order_of_the_tuples(self):
        rows = [(A, X, 5), (B, X, 5), (C, Entry(told="z"), 9), (A, Y, 7), (A, gone("y"), 8), (D, Entry(told="w"), 5)]
        one = fill(Shelf(), rows, ())
        told = growth(Shelf(), one)
        self.assertEqual([row[1].told for row in told], ["z", "y", "x", "x", "w"])
        self.assertEqual([row[0] for row in growth(one, one)], [((C, "told", "z"),), (PY,), (PX,), ((B, "told", "x"),), ((D, "told", "w"),)])

    def test_example(self):
        one, other = Shelf(), Shelf()
        one.see("//h/f", Entry(told="a", text="old"), 20)
        other.see("//h/f", Entry(told="a", text="new"), 10)
        other.see("//h/f", Entry(told="a", text="old"), 5)
        self.assertEqual(growth(one, one | other)[0][2], ("newer",))

    def test_refused(self):
        shelf = fill(Shelf(), [(A, X, 5)], ())
        for value in ODD_OBJECTS + (Shelf, (shelf,)):
            self.check_refused(BadShelf, {"number": 0}, growth, value, value)
            self.check_refused(BadShelf, {"number": 0}, growth, value, shelf)
            self.check_refused(BadShelf, {"number": 1}, growth, shelf, value)
        for other in (Shelf(), fill(Shelf(), [(A, X, 6)], ()), fill(Shelf(), [(B, X, 5)], ())):
            self.check_refused(BadShelf, {"number": None}, growth, shelf, other)
        self.check_refused(BadShelf, {"number": None}, growth, fill(Shelf(), (), [(A, B)]), fill(Shelf(), (), [(B, A)]))
        self.assertEqual(shelf.sightings, ((A, X, 5),))

    def test_random_growth(self):
        rng = random.Random(64)
        seen = set()
        for _ in range(400):
            rows, moves = some_sightings(rng, rng.randrange(8)), some_moves(rng)
            more, more_moves = some_sightings(rng, rng.randrange(4)), some_moves(rng)
            one = fill(Shelf(), rows, moves)
            told = growth(one, fill(one.merged(), more, more_moves))
            olds = shelf_oracle.items(rows, moves)
            expected = []
            for item in shelf_oracle.items(rows + more, moves + more_moves):
                inner = [old for old in olds if shelf_oracle.place_belongs(item, moves + more_moves, old["places"][0])]
                words = ["new"] * (not inner) + ["joined"] * (len(inner) > 1)
                words += ["newer"] * (bool(inner) and all(old["version"] != item["version"] for old in inner))
                words += ["gone"] * (item["is_gone"] and (not inner or any(not old["is_gone"] for old in inner)))
                words += ["back"] * (not item["is_gone"] and bool(inner) and all(old["is_gone"] for old in inner))
                expected.append((tuple(sorted(old["places"][0] for old in inner)), item["version"], tuple(words)))
                seen.add(tuple(words))
            self.assertEqual(told, tuple(expected))
            self.assertEqual(sorted(place for row in told for place in row[0]), sorted(old["places"][0] for old in olds))
        self.assertGreaterEqual(len(seen), 9)
