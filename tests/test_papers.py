"""Papers: promise [65]."""

import copy
import itertools
import random

from feedreader.errors import NoSighting
from feedreader.pages import Entry
from feedreader.papers import shows, why_one, why_two
from feedreader.shelves import Shelf
from tests import shelf_oracle
from tests.cases import RefusalCase
from tests.objects import ODD_OBJECTS
from tests.shelf_oracle import ADDRESSES, LINKS, fill, some_moves, some_sightings

A, B, C, D = ADDRESSES
X, XL, YL, Z = Entry(told="x"), Entry(told="x", link=LINKS[0]), Entry(told="y", link=LINKS[0]), Entry(told="z")
TX, L = ("told", "x"), ("link", LINKS[0])
MOVES = ((B, A), (B, C))
ROWS = ((A, X, 5), (C, XL, 6), (A, YL, 7), (A, Z, 8), (D, X, 9), (A, ("told", "w", None), 5))
# A paper for (A, X) and (A, YL), with each way as short as it can be.
GOOD_ONE = ("one", ((A, X), (C, XL), (A, YL)), (TX, L), ((A, B, C), (C, B, A)))
GOOD_FEEDS = {A: 7, B: 7, C: 7, D: 3}
GOOD_LABELS = {(7, *TX): 1, (7, *L): 1, (7, "told", "y"): 1, (7, "told", "z"): 2, (3, *TX): 0}
GOOD_TWO = ("two", GOOD_FEEDS, GOOD_LABELS)


def shelf_of(rows=ROWS, moves=MOVES):
    """A shelf with these sightings and moves."""
    return fill(Shelf(), rows, moves)


class PaperTest(RefusalCase):
    def test_papers_that_are_made(self):
        shelf = shelf_of()
        self.assertEqual(why_one(shelf, (A, X), (A, YL)), GOOD_ONE)
        self.assertEqual(why_one(shelf=shelf, one=(A, X), other=(A, X)), ("one", ((A, X),), (), ()))
        self.assertEqual(why_one(shelf, (C, XL), (A, X)), ("one", ((C, XL), (A, X)), (TX,), ((C, B, A),)))
        self.assertIsNone(why_one(shelf, (A, X), (D, X)))
        self.assertIsNone(why_two(shelf, (A, X), (A, YL)))
        self.assertIsNone(why_two(shelf, (A, X), (A, X)))
        word, feeds, labels = why_two(shelf=shelf, one=(A, X), other=(D, X))
        self.assertEqual((word, sorted(feeds)), ("two", [A, B, C, D]))
        self.assertTrue(feeds[A] == feeds[B] == feeds[C] != feeds[D])
        self.assertEqual(len(set(labels.values())), 3)

    def test_equal_entries_at_several_addresses(self):
        shelf = shelf_of(((A, X, 5), (B, X, 6)), [(B, A)])
        self.assertEqual(why_one(shelf, (A, X), (B, X)), ("one", ((A, X), (B, X)), (TX,), ((A, B),)))
        self.assertEqual(shows(shelf, (A, X), (B, X), ("one", ((A, X), (B, X)), (TX,), ((A, B),))), "one")

    def test_entries_are_looked_at_by_what_they_are(self):
        shelf = shelf_of()
        paper = why_one(shelf, (A, Entry(told="x")), (C, Entry(link=LINKS[0], told="x")))
        self.assertEqual(shows(shelf, (A, Entry(told="x")), (C, XL), paper), "one")

    def test_shows(self):
        shelf = shelf_of()
        self.assertEqual(shows(shelf=shelf, one=(A, X), other=(A, YL), paper=GOOD_ONE), "one")
        for one, other in itertools.permutations(((A, X), (A, Z), (D, X)), 2):
            self.assertEqual(shows(shelf, one, other, GOOD_TWO), "two")
        for one in ((A, X), (D, X)):
            self.assertIsNone(shows(shelf, one, one, GOOD_TWO))
        self.assertIsNone(shows(shelf, (A, X), (C, XL), GOOD_TWO))
        for one, other in (((A, YL), (A, X)), ((A, X), (C, XL)), ((C, XL), (A, YL)), ((A, X), (D, X)), ((A, X), (A, X))):
            self.assertIsNone(shows(shelf, one, other, GOOD_ONE))

    def test_longer_rows(self):
        shelf = shelf_of()
        for paper in (
            ("one", ((A, X), (A, X)), (TX,), ((A,),)),
            ("one", ((A, X), (A, X)), (TX,), ((A, B, A),)),
            ("one", ((A, X), (C, XL), (A, X)), (TX, TX), ((A, B, C, B, C), (C, B, A))),
            ("one", ((A, X), (C, XL), (A, YL), (C, XL), (A, X)), (TX, L, L, TX), ((A, B, C), (C, B, A), (A, B, C), (C, B, A, B, A))),
        ):
            self.assertEqual(shows(shelf, (A, X), (A, X), paper), "one", paper)

    def test_objects_that_are_nearly_papers_of_the_first_sort(self):
        shelf = shelf_of()
        _, sightings, signs, ways = GOOD_ONE
        wrong = [
            ("two", sightings, signs, ways), ("One", sightings, signs, ways), (None, sightings, signs, ways), (["one"], sightings, signs, ways),
            ("one", list(sightings), signs, ways), ("one", sightings, list(signs), ways), ("one", sightings, signs, list(ways)), list(GOOD_ONE),
            GOOD_ONE[:3], GOOD_ONE + ((),), ("one", (), (), ()), ("one", sightings[:2], signs[:1], ways[:1]), ("one", sightings[1:], signs[1:], ways[1:]),
            ("one", sightings, signs[:1], ways), ("one", sightings, signs, ways[:1]), ("one", sightings, signs + (L,), ways),
            ("one", sightings, signs, ways + ((A,),)), ("one", sightings, signs + (L,), ways + ((A,),)),
            ("one", sightings, (L, L), ways), ("one", sightings, (TX, TX), ways), ("one", sightings, (list(TX), L), ways),
            ("one", sightings, (TX, ("link",)), ways), ("one", sightings, (TX, None), ways), ("one", sightings, (("told", "y"), L), ways),
            ("one", sightings, signs, ((A, C), (C, B, A))), ("one", sightings, signs, ((A, B), (C, B, A))), ("one", sightings, signs, ((B, C), (C, B, A))),
            ("one", sightings, signs, ((), (C, B, A))), ("one", sightings, signs, ([A, B, C], (C, B, A))), ("one", sightings, signs, ((A, A, B, C), (C, B, A))),
            ("one", sightings, signs, ((A, None, C), (C, B, A))), ("one", sightings, signs, ((A, [B], C), (C, B, A))), ("one", sightings, signs, (A, C)),
            ("one", sightings, signs, ((A, D, C), (C, B, A))), ("one", sightings, signs, (None, (C, B, A))),
            ("one", ((A, X), (A, YL)), (TX,), ((A,),)), ("one", ((A, X), (A, YL)), (L,), ((A,),)),
            ("one", ((A, X), (B, XL), (A, YL)), signs, ((A, B), (B, A))), ("one", ((A, X), [C, XL], (A, YL)), signs, ways),
            ("one", ((A, X), (C, XL, 6), (A, YL)), signs, ways), ("one", ((A, X), (C, None), (A, YL)), signs, ways),
            ("one", ((A, X), (C, Entry(told="x", link=LINKS[0], text="t")), (A, YL)), signs, ways),
            ("one", (None, (C, XL), (A, YL)), signs, ways), ("one", ((A, X), (["//h/c"], XL), (A, YL)), signs, ways),
        ]
        for paper in wrong + list(ODD_OBJECTS) + [(value, sightings, signs, ways) for value in ODD_OBJECTS]:
            self.assertIsNone(shows(shelf, (A, X), (A, YL), paper), paper)
        for at in (1, 2, 3):
            for value in ODD_OBJECTS:
                paper = GOOD_ONE[:at] + (value,) + GOOD_ONE[at + 1:]
                self.assertIsNone(shows(shelf, (A, X), (A, YL), paper), paper)
        # A way must be there even where the addresses are one, and a notice is no sighting of an entry.
        self.assertIsNone(shows(shelf, (A, X), (A, X), ("one", ((A, X), (A, X)), (TX,), ((),))))
        self.assertIsNone(shows(shelf, (A, X), (A, X), ("one", ((A, X), (A, ("told", "w", None)), (A, X)), (TX, TX), ((A,), (A,)))))

    def test_further_keys(self):
        feeds = {**GOOD_FEEDS, "//h/z": 7, None: None, 5: "x", (): 3}
        labels = {**GOOD_LABELS, (9, "told", "x"): 1, "x": None, (7, "told", "w"): 2, (7, "link", LINKS[1]): 1.5}
        self.assertEqual(shows(shelf_of(), (A, X), (D, X), ("two", feeds, labels)), "two")

    def test_numbers_may_be_any_integers(self):
        for low, high in ((-5, 0), (10 ** 11, -10 ** 11)):
            feeds = {A: low, B: low, C: low, D: high}
            labels = {(low, *TX): high, (low, *L): high, (low, "told", "y"): high, (low, "told", "z"): low, (high, *TX): low}
            self.assertEqual(shows(shelf_of(), (A, X), (D, X), ("two", feeds, labels)), "two")
            self.assertIsNone(shows(shelf_of(), (A, Z), (D, X), ("two", feeds, labels)))

    def test_all_feeds_may_have_one_number(self):
        labels = {("told", "x"): 1, L: 1, ("told", "y"): 1, ("told", "z"): 2}
        paper = ("two", {A: 0, B: 0, C: 0, D: 0}, {(0, *sign): label for sign, label in labels.items()})
        self.assertEqual(shows(shelf_of(), (A, X), (A, Z), paper), "two")
        self.assertIsNone(shows(shelf_of(), (A, X), (D, X), paper))

    def test_objects_that_are_nearly_papers_of_the_second_sort(self):
        shelf = shelf_of()
        feeds, labels = GOOD_FEEDS, GOOD_LABELS
        wrong = [
            ("one", feeds, labels), ("Two", feeds, labels), list(GOOD_TWO), GOOD_TWO[:2], GOOD_TWO + ({},), ("two", labels, feeds),
            ("two", {**feeds, B: 3}, labels), ("two", {**feeds, C: 3}, labels), ("two", {**feeds, D: 7}, labels), ("two", {**feeds, D: 4}, labels),
            ("two", {**feeds, A: True}, labels), ("two", {**feeds, D: None}, labels), ("two", {**feeds, D: 3.0}, labels), ("two", {**feeds, D: [3]}, labels),
            ("two", feeds, {**labels, (7, *L): 2}), ("two", feeds, {**labels, (7, "told", "y"): 2}), ("two", feeds, {**labels, (3, *TX): 1}),
            ("two", feeds, {**labels, (3, *TX): None}), ("two", feeds, {**labels, (3, *TX): False}), ("two", feeds, {**labels, (7, "told", "z"): 2.0}),
            ("two", feeds, {**labels, (7, "told", "z"): "2"}), ("two", feeds, {**labels, (7, *L): 1.0}),
            ("two", tuple(feeds.items()), labels), ("two", feeds, tuple(labels.items())),
        ]
        wrong += [("two", {key: feeds[key] for key in feeds if key != left}, labels) for left in feeds]
        wrong += [("two", feeds, {key: labels[key] for key in labels if key != left}) for left in labels]
        wrong += [("two", value, labels) for value in ODD_OBJECTS] + [("two", feeds, value) for value in ODD_OBJECTS]
        wrong += [(value, feeds, labels) for value in ODD_OBJECTS]
        for paper in wrong:
            self.assertIsNone(shows(shelf, (A, X), (D, X), paper), paper)
        truth = {**labels, (7, *TX): True, (7, *L): True, (7, "told", "y"): True}
        self.assertIsNone(shows(shelf, (A, X), (D, X), ("two", feeds, truth)))

    def test_addresses_of_notices_need_no_number(self):
        shelf = shelf_of(ROWS + (("//h/n", ("told", "x", None), 5),))
        self.assertEqual(shows(shelf, (A, X), (D, X), GOOD_TWO), "two")
        self.assertNotIn("//h/n", why_two(shelf, (A, X), (D, X))[1])

    def test_what_is_no_sighting(self):
        shelf = shelf_of()
        good = (A, X)
        for value in ODD_OBJECTS + (
            (A, YL, 7), [A, X], (A,), (B, X), (A, XL), (C, X), ("//h", X), (None, X), ([A], X), (A, ("told", "w", None)), (A, "x"), (X, A), X, A,
            ("//h/z", X), (A, None), (A, TX),
        ):
            for call in (why_one, why_two, lambda shelf, one, other: shows(shelf, one, other, GOOD_ONE)):
                self.check_refused(NoSighting, {"number": 0}, call, shelf, value, value)
                self.check_refused(NoSighting, {"number": 0}, call, shelf, value, good)
                self.check_refused(NoSighting, {"number": 1}, call, shelf, good, value)
        for paper in ODD_OBJECTS:
            self.check_refused(NoSighting, {"number": 0}, shows, shelf, (B, X), good, paper)

    def test_nothing_is_changed(self):
        shelf = shelf_of()
        known = (shelf.sightings, shelf.moves)
        feeds, labels = copy.deepcopy(GOOD_FEEDS), copy.deepcopy(GOOD_LABELS)
        shows(shelf, (A, X), (D, X), ("two", feeds, labels))
        _, told, more = why_two(shelf, (A, X), (D, X))
        told.clear()
        more.clear()
        self.assertEqual((feeds, labels, shelf.sightings, shelf.moves), (GOOD_FEEDS, GOOD_LABELS, *known))
        self.assertEqual(shows(shelf, (A, X), (D, X), why_two(shelf, (A, X), (D, X))), "two")

    def test_papers_of_just_one_sort(self):
        rng = random.Random(651)
        sorts = []
        for _ in range(120):
            rows, moves = some_sightings(rng, rng.randrange(1, 9)), some_moves(rng)
            shelf = fill(Shelf(), rows, moves)
            parts = [[row[:2] for row in part] for part in shelf_oracle.classes(shelf_oracle.least(rows), moves)]
            for left, right in itertools.product([row for part in parts for row in part], repeat=2):
                one, two = why_one(shelf, left, right), why_two(shelf, left, right)
                are_one = any(left in part and right in part for part in parts)
                self.assertEqual((one is None, two is None), (not are_one, are_one))
                self.assertEqual(shows(shelf, left, right, one if are_one else two), "one" if are_one else "two")
                self.assertEqual(shows(shelf, right, left, two), None if are_one else "two")
                if are_one:
                    backward = ("one", one[1][::-1], one[2][::-1], tuple(way[::-1] for way in one[3][::-1]))
                    self.assertEqual(shows(shelf, right, left, backward), "one")
                sorts.append(are_one)
        self.assertTrue(200 < sum(sorts) < len(sorts) - 200)
