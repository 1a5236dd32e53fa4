"""Shelves and items: promises [60], [61], [62] and [63]."""

import itertools
import random
import unittest

from feedreader.dates import LAST_MOMENT, date_of
from feedreader.errors import BadAddress, BadMoment, BadShelf, BadThing, NoItem
from feedreader.fetchers import Fetcher
from feedreader.pages import Entry, Page
from feedreader.presses import Press
from feedreader.shelves import Item, Shelf
from feedreader.walks import walk
from feedreader.worlds import World, rows_of, world_of
from tests import shelf_oracle
from tests.cases import RefusalCase
from tests.objects import ODD_OBJECTS
from tests.press_oracle import do, some_deeds
from tests.shelf_oracle import ADDRESSES, fill, some_moves, some_sightings

A, B, C, D = ADDRESSES
X = Entry(told="x")
NO_ADDRESSES = ODD_OBJECTS + ("//h", "/a", "//H/")
NO_MOMENTS = ODD_OBJECTS + (-1, LAST_MOMENT + 1)
NO_THINGS = ODD_OBJECTS + (
    Page(), Entry, ("told", "x"), ["told", "x", None], ("told", "", None), ("words", "x\n", None), ("told", "x", 5),
    ("told", "x", (1, 1, 1, 0, 0, 0)), ("link", "h", None), ("told", "x", None, None), (X,), (X, 5), ("told", X, None), "told",
)
NO_PLACES = ODD_OBJECTS + (
    (A, "told"), [A, "told", "x"], (A, "told", "x", None), (A, ("told", "x")), (A, "told", "y"), (B, "told", "x"), (A, "link", "x"),
    (A, "Told", "x"), (A, "told", ["x"]), (A, [], "x"), ([A], "told", "x"), ({}, {}, {}), (None, None, None), (A, "told", None),
    ("//h", "told", "x"), (A, b"told", "x"), (A, "words", "\n"), (A, "told", "X"),
)


def shelf_of(*sightings, moves=()):
    """A shelf with these sightings and moves."""
    return fill(Shelf(), sightings, moves)


def told_of(item):
    """All that an item tells."""
    return (item.feed, item.places, item.version, item.time, item.entries, item.is_gone)


def all_of(shelf):
    """All that a shelf tells."""
    return (shelf.sightings, shelf.moves, *([told_of(item) for item in shelf.all_items(gone=gone)] for gone in (False, True)))


def at(moment, zone=0):
    """The date of a moment."""
    return date_of(moment, zone)


class KeepTest(RefusalCase):
    def test_a_new_one(self):
        shelf = Shelf()
        self.assertEqual((shelf.sightings, shelf.moves, shelf.all_items(), shelf.all_items(gone=True)), ((), (), (), ()))
        self.assertEqual(shelf, Shelf())
        with self.assertRaises(TypeError):
            Shelf(None)
        for name in ("sightings", "moves"):
            with self.assertRaises(AttributeError):
                setattr(shelf, name, ())

    def test_the_least_moment(self):
        shelf = Shelf()
        notice = ("told", "x", None)
        for moment, least in ((5, 5), (7, 5), (5, 5), (3, 3), (4, 3), (0, 0), (LAST_MOMENT, 0)):
            for thing in (X, notice):
                self.assertIsNone(shelf.see(A, thing, moment))
            self.assertEqual(shelf.sightings, ((A, X, least), (A, notice, least)))
        shelf.see(feed=B, thing=X, moment=9)
        self.assertEqual(shelf.sightings, ((A, X, 0), (A, notice, 0), (B, X, 9)))

    def test_equal_entries_are_one(self):
        shelf = shelf_of((A, Entry(told="x", text="t"), 5), (A, Entry(text="t", told="x"), 4), (A, Entry(told="x", text="u"), 6))
        self.assertEqual(shelf.sightings, ((A, Entry(told="x", text="t"), 4), (A, Entry(told="x", text="u"), 6)))

    def test_order_of_sightings(self):
        things = [
            Entry(headline="b"), Entry(link="//g/"), Entry(link="//g/", changed=at(5)), Entry(link="//g/", published=at(1)),
            Entry(told="a"), Entry(told="a", changed=at(5)), Entry(told="a", changed=at(6)), Entry(told="a", published=at(1)),
            Entry(told="a", text="t"), Entry(told="a", headline="b"), Entry(told="a", link="//g/"), Entry(told="b"),
            ("link", "//g/", None), ("link", "//g/", at(1)), ("told", "a", None), ("told", "a", at(0)), ("told", "a", at(1)), ("told", "b", None),
        ]
        rows = [(feed, thing, number) for feed in (A, B) for number, thing in enumerate(things)]
        mixed = list(rows)
        random.Random(60).shuffle(mixed)
        self.assertEqual(shelf_of(*mixed).sightings, tuple(rows))

    def test_moves(self):
        shelf = Shelf()
        for old, new in ((B, A), (A, C), (A, B), (B, A)):
            self.assertIsNone(shelf.learn(old, new))
        self.assertEqual(shelf.moves, ((A, B), (A, C), (B, A)))
        shelf.learn(new=A, old=D)
        self.assertEqual(shelf.moves, ((A, B), (A, C), (B, A), (D, A)))
        self.assertEqual(shelf.sightings, ())

    def test_refused_sightings(self):
        shelf = shelf_of((A, X, 5), moves=[(A, B)])
        known = all_of(shelf)
        for address in NO_ADDRESSES:
            self.check_refused(BadAddress, {"given": address}, shelf.see, address, X, 4)
            self.check_refused(BadAddress, {"given": address}, shelf.see, address, None, None)
        for thing in NO_THINGS:
            self.check_refused(BadThing, {"given": thing}, shelf.see, A, thing, 4)
            self.check_refused(BadThing, {"given": thing}, shelf.see, A, thing, None)
        for moment in NO_MOMENTS:
            self.check_refused(BadMoment, {"given": moment}, shelf.see, A, X, moment)
            self.check_refused(BadMoment, {"given": moment}, shelf.see, B, ("told", "x", None), moment)
        self.assertEqual(all_of(shelf), known)

    def test_refused_moves(self):
        shelf = shelf_of((A, X, 5), moves=[(A, B)])
        known = all_of(shelf)
        for address in NO_ADDRESSES:
            for pair in ((address, A), (A, address), (address, address)):
                self.check_refused(BadAddress, {"given": address}, shelf.learn, *pair)
        self.check_refused(BadAddress, {"given": "//1"}, shelf.learn, "//1", "//2")
        for address in (A, B, C):
            self.check_refused(BadAddress, {"given": address}, shelf.learn, address, address)
        self.assertEqual(all_of(shelf), known)

    def test_take_walk(self):
        notice = ("told", "y", at(3))
        first = Page(older=C, entries=(X, Entry(told="y")), notices=(notice,))
        second = Page(entries=(Entry(told="z"), X), notices=(("link", "//g/", None), notice))
        rows = rows_of(((B, first), (C, second)), 0, fresh=9) + ((A, 0, ("moved", B, True)), (D, 0, ("moved", A, False)))
        fetcher = Fetcher(World(rows))
        fetcher.fetch(C, 5)
        shelf = shelf_of((A, X, 1))
        told = walk(fetcher, A, 10)
        self.assertIsNone(shelf.take_walk(walk=told))
        self.assertEqual(shelf.sightings, (
            (A, X, 1), (B, X, 5), (B, Entry(told="y"), 10), (B, Entry(told="z"), 5), (B, ("link", "//g/", None), 5), (B, notice, 5)))
        self.assertEqual(shelf.moves, ((A, B),))
        known = all_of(shelf)
        shelf.take_walk(told)
        self.assertEqual(all_of(shelf), known)
        other = Shelf()
        other.take_walk(walk(fetcher, D, 11))
        self.assertEqual({row[0] for row in other.sightings}, {D})
        self.assertEqual(other.moves, ((A, B),))

    def test_take_a_walk_without_pages(self):
        fetcher = Fetcher(World(((A, 0, ("moved", B, True)),)))
        shelf = Shelf()
        shelf.take_walk(walk(fetcher, A, 5))
        self.assertEqual((shelf.sightings, shelf.moves), ((), ((A, B),)))

    def test_things_passed_in_are_not_changed(self):
        one, other = shelf_of((A, X, 5)), shelf_of((B, X, 4), moves=[(A, B)])
        known = all_of(one), all_of(other)
        whole = one.merged(other)
        whole.see(C, X, 3)
        whole.learn(C, D)
        self.assertEqual((all_of(one), all_of(other)), known)
        one.see(D, X, 1)
        other.learn(A, D)
        self.assertEqual(whole.moves, ((A, B), (C, D)))
        self.assertEqual([row[0] for row in whole.sightings], [A, B, C])


class MergeTest(RefusalCase):
    def shelves(self, seed, count, size=8):
        """Random shelves with what they were made of."""
        rng = random.Random(seed)
        for _ in range(count):
            rows, moves = some_sightings(rng, rng.randrange(size)), some_moves(rng)
            yield rng, rows, moves, shelf_of(*rows, moves=moves)

    def test_merged(self):
        one, other, third = shelf_of((A, X, 5)), shelf_of((A, X, 4), (B, X, 7), moves=[(A, B)]), shelf_of(moves=[(C, D)])
        whole = one.merged(other, third)
        self.assertEqual((whole.sightings, whole.moves), (((A, X, 4), (B, X, 7)), ((A, B), (C, D))))
        self.assertEqual((one | other).sightings, ((A, X, 4), (B, X, 7)))
        self.assertEqual((one | third).moves, ((C, D),))
        copy = one.merged()
        self.assertEqual(copy, one)
        copy.see(B, X, 5)
        self.assertNotEqual(copy, one)
        self.assertEqual(one.merged(one, one), one)

    def test_merging_what_is_no_shelf(self):
        shelf = shelf_of((A, X, 5))
        for value in ODD_OBJECTS + (Shelf, [shelf], (shelf,), X):
            self.check_refused(BadShelf, {"number": 0}, shelf.merged, value, None)
            self.check_refused(BadShelf, {"number": 2}, shelf.merged, shelf, Shelf(), value, shelf)
            self.check_refused(BadShelf, {"number": 0}, lambda one, other: one | other, shelf, value)
        self.assertEqual(shelf, shelf_of((A, X, 5)))

    def test_merging_is_commutative_associative_and_idempotent(self):
        shelves = [row[3] for row in self.shelves(61, 60)]
        for one, other, third in zip(shelves, shelves[1:], shelves[2:]):
            self.assertEqual(one | other, other | one)
            self.assertEqual(all_of(one | other), all_of(other | one))
            self.assertEqual((one | other) | third, one | (other | third))
            self.assertEqual(one.merged(other, third), third | other | one)
            self.assertEqual(one | one, one)
            self.assertEqual((one | other) | other, one | other)
            self.assertTrue(one.is_within(one | other) and other.is_within(one | other))

    def test_order_and_repetitions_do_not_matter(self):
        for rng, rows, moves, shelf in self.shelves(62, 60):
            mixed = rows + rng.choices(rows, k=3) if rows else []
            rng.shuffle(mixed)
            again = moves + moves[:1]
            rng.shuffle(again)
            other = Shelf()
            for old, new in again[:1]:
                other.learn(old, new)
            fill(other, mixed, again)
            self.assertEqual(all_of(other), all_of(shelf))
            self.assertEqual(other, shelf)

    def test_is_within(self):
        one = shelf_of((A, X, 5), moves=[(A, B)])
        for other, told in (
            (one, True), (shelf_of((A, X, 5), (B, X, 1), moves=[(A, B), (B, A)]), True), (shelf_of((A, X, 4), moves=[(A, B)]), True),
            (shelf_of((A, X, 6), moves=[(A, B)]), False), (shelf_of((A, X, 5)), False), (shelf_of((A, X, 5), moves=[(B, A)]), False),
            (shelf_of((B, X, 5), moves=[(A, B)]), False), (shelf_of((A, Entry(told="x", text="t"), 5), moves=[(A, B)]), False),
        ):
            self.assertIs(one.is_within(other=other), told)
        self.assertIs(Shelf().is_within(one), True)
        self.assertIs(Shelf().is_within(Shelf()), True)
        self.assertIs(one.is_within(Shelf()), False)
        shelves = [row[3] for row in self.shelves(63, 40, 3)]
        for one, other in itertools.product(shelves, repeat=2):
            self.assertIs(one.is_within(other), other.merged(one) == other)

    def test_equality(self):
        one = shelf_of((A, X, 5), (A, ("told", "x", None), 5), moves=[(A, B)])
        same = shelf_of((A, ("told", "x", None), 9), (A, Entry(told="x"), 5), (A, ("told", "x", None), 5), moves=[(A, B), (A, B)])
        self.assertTrue(one == same and not one != same)
        for other in (
            shelf_of((A, X, 5), moves=[(A, B)]), shelf_of((A, X, 4), (A, ("told", "x", None), 5), moves=[(A, B)]),
            shelf_of((A, X, 5), (A, ("told", "x", None), 5)), shelf_of((A, X, 5), (A, ("told", "x", None), 5), moves=[(B, A)]),
            shelf_of((A, X, 5), (A, ("told", "x", at(0)), 5), moves=[(A, B)]), Shelf(),
        ):
            self.assertFalse(one == other)
            self.assertTrue(one != other)
        for other in ODD_OBJECTS + (Shelf, (one,), one.sightings):
            self.assertFalse(one == other)


class FeedTest(RefusalCase):
    def test_feed_of(self):
        shelf = shelf_of((D, X, 5), ("//h/z", ("told", "x", None), 5), moves=[(C, B), (A, B)])
        for address in (A, B, C):
            self.assertEqual(shelf.feed_of(address), (A, B, C))
        self.assertEqual(shelf.feed_of(address=D), (D,))
        self.assertEqual(shelf.feed_of("//h/z"), ("//h/z",))
        self.assertEqual(shelf.feed_of("//h/nothing"), ("//h/nothing",))
        shelf.learn(D, A)
        self.assertEqual(shelf.feed_of(D), (A, B, C, D))
        for address in NO_ADDRESSES:
            self.check_refused(BadAddress, {"given": address}, shelf.feed_of, address)

    def test_chains_of_moves_in_any_direction(self):
        for directions in itertools.product((False, True), repeat=3):
            moves = [move[::-1] if turned else move for move, turned in zip(((B, D), (D, A), (A, C)), directions)]
            for rows in (moves, moves[::-1]):
                self.assertEqual(shelf_of(moves=rows).feed_of(C), (A, B, C, D))

    def test_random_feeds(self):
        rng = random.Random(64)
        names = [f"//h/{n:02d}" for n in range(12)]
        for _ in range(60):
            moves = [tuple(rng.sample(names, 2)) for _ in range(rng.randrange(12))]
            shelf = shelf_of(moves=moves)
            for address in names:
                self.assertEqual(shelf.feed_of(address), shelf_oracle.feed_of(moves, address))


class ItemTest(RefusalCase):
    def test_one_entry(self):
        entry = Entry(told="x", link="//g/1", headline="H")
        shelf = shelf_of((A, entry, 5))
        [item] = shelf.all_items()
        self.assertIsInstance(item, Item)
        self.assertEqual(told_of(item), ((A,), ((A, "link", "//g/1"), (A, "told", "x")), entry, 5, (entry,), False))
        self.assertEqual(shelf.all_items(gone=True), ())
        for name in ("feed", "places", "version", "time", "entries", "is_gone"):
            with self.assertRaises(AttributeError):
                setattr(item, name, None)

    def test_entries_without_told_and_link(self):
        rows = [Entry(headline="H", text="t"), Entry(headline="H", text="t", changed=at(3)), Entry(headline="H"), Entry(text="H"), Entry(text="t")]
        shelf = shelf_of(*[(A, entry, 5) for entry in rows])
        self.assertEqual([len(item.entries) for item in shelf.all_items()], [2, 1, 1, 1])
        self.assertEqual(shelf.item_of((A, "words", "H\nt")).entries, (rows[0], rows[1]))
        self.assertEqual(shelf.item_of((A, "words", "\nH")).entries, (rows[3],))
        self.assertEqual(shelf.item_of((A, "words", "H\n")).places, ((A, "words", "H\n"),))

    def test_chains_of_near_sightings(self):
        one, two, three = Entry(told="x", link="//g/1"), Entry(told="y", link="//g/1"), Entry(told="y", text="t")
        far = Entry(told="z", link="//g/2")
        for rows in itertools.permutations(((A, one, 5), (A, two, 6), (A, three, 7), (A, far, 8))):
            shelf = shelf_of(*rows)
            self.assertEqual([item.entries for item in shelf.all_items()], [(far,), (three, two, one)])
        shelf = shelf_of((A, one, 5), (A, three, 7))
        self.assertEqual([item.entries for item in shelf.all_items()], [(three,), (one,)])
        joining = Entry(told="x", link="//g/2")
        shelf = shelf_of((A, one, 5), (A, far, 6), (A, joining, 4))
        [item] = shelf.all_items()
        self.assertEqual(item.entries, (far, one, joining))
        self.assertEqual(item.places, tuple(sorted((A,) + sign for entry in (one, far) for sign in entry.signs)))

    def test_signs_of_other_sorts_are_others(self):
        shelf = shelf_of((A, Entry(told="//g/1"), 5), (A, Entry(link="//g/1"), 5), (A, Entry(headline="//g/1"), 5))
        self.assertEqual(len(shelf.all_items()), 3)

    def test_items_of_several_addresses(self):
        newer = Entry(told="x", text="t")
        rows = ((A, X, 5), (C, newer, 6))
        shelf = shelf_of(*rows)
        self.assertEqual([told_of(item)[:3] for item in shelf.all_items()], [((C,), ((C, "told", "x"),), newer), ((A,), ((A, "told", "x"),), X)])
        shelf = shelf_of(*rows, moves=[(B, A), (B, C)])
        [item] = shelf.all_items()
        self.assertEqual(told_of(item), ((A, B, C), ((A, "told", "x"), (C, "told", "x")), newer, 6, (newer, X), False))

    def test_places_that_belong(self):
        shelf = shelf_of((A, Entry(told="x", link="//g/1"), 5), (C, Entry(told="x"), 6), (D, Entry(told="y"), 7), moves=[(B, A), (B, C)])
        item = shelf.item_of((A, "told", "x"))
        for address in (A, B, C):
            for sign in (("told", "x"), ("link", "//g/1")):
                self.assertEqual(told_of(shelf.item_of(place=(address,) + sign)), told_of(item))
                self.assertIs((address,) + sign in shelf, True)
        self.assertEqual(item.places, ((A, "link", "//g/1"), (A, "told", "x"), (C, "told", "x")))
        for place in ((D, "told", "x"), (A, "told", "y"), (D, "link", "//g/1"), ("//h/z", "told", "x")):
            self.assertIs(place in shelf, False)
            self.check_refused(NoItem, {"given": place}, shelf.item_of, place)

    def test_what_is_no_place(self):
        shelf = shelf_of((A, X, 5), (B, ("told", "x", None), 5))
        for place in NO_PLACES:
            self.check_refused(NoItem, {"given": place}, shelf.item_of, place)
            self.assertIs(place in shelf, False)
            with self.assertRaises(NoItem) as caught:
                shelf.item_of(place)
            self.assertIs(caught.exception.given, place)
        self.check_refused(NoItem, {"given": (A, "told", "x")}, Shelf().item_of, (A, "told", "x"))

    def test_an_item_does_not_change(self):
        shelf = shelf_of((A, X, 5))
        item = shelf.item_of((A, "told", "x"))
        known = told_of(item)
        for _ in range(2):
            shelf.see(A, Entry(told="x", link="//g/1"), 7)
            shelf.see(A, ("told", "x", None), 9)
            shelf.learn(A, B)
        self.assertEqual(told_of(item), known)
        self.assertNotEqual(told_of(shelf.item_of((A, "told", "x"))), known)

    def test_items_follow_each_change(self):
        shelf = shelf_of((A, X, 5))
        newer = Entry(told="x", text="t")
        self.assertEqual(len(shelf.all_items()), 1)
        shelf.see(B, newer, 9)
        self.assertEqual(len(shelf.all_items()), 2)
        shelf.learn(A, B)
        self.assertEqual([item.version for item in shelf.all_items()], [newer])
        shelf.see(B, newer, 4)
        self.assertEqual([item.version for item in shelf.all_items()], [X])
        shelf.see(A, ("told", "x", None), 7)
        self.assertEqual((len(shelf.all_items()), len(shelf.all_items(gone=True))), (0, 1))
        shelf.see(A, newer, 8)
        shelf.see(A, ("told", "x", None), 4)
        self.assertEqual((len(shelf.all_items()), len(shelf.all_items(gone=True))), (1, 0))


class TimeTest(RefusalCase):
    def time_of(self, entry, *moments, feed=A):
        """The time of an entry that was seen at these moments."""
        return shelf_of(*[(feed, entry, moment) for moment in moments]).all_items()[0].time

    def test_time(self):
        for dates, sight, time in (
            ({}, 50, 50), ({"changed": at(40)}, 50, 40), ({"changed": at(60)}, 50, 50), ({"changed": at(50)}, 50, 50),
            ({"published": at(40)}, 50, 40), ({"published": at(60)}, 50, 50), ({"published": at(30), "changed": at(40)}, 50, 40),
            ({"published": at(40), "changed": at(30)}, 50, 30), ({"published": at(40), "changed": at(60)}, 50, 50),
            ({"changed": at(40, 60)}, 50, 40), ({"changed": at(4000, -60)}, 5000, 4000), ({"published": at(0)}, 0, 0),
        ):
            self.assertEqual(self.time_of(Entry(told="x", **dates), sight, sight + 1), time, dates)

    def test_sight_is_the_least_one_of_the_feed(self):
        newer = Entry(told="x", text="n")
        rows = ((A, X, 20), (B, X, 10), (C, X, 1), (A, newer, 15))
        for moves, version, time in (((), X, 20), (((A, B),), newer, 15), (((C, B), (B, A)), newer, 15)):
            shelf = shelf_of(*rows, moves=moves)
            self.assertEqual((shelf.item_of((A, "told", "x")).version, shelf.item_of((A, "told", "x")).time), (version, time))
        self.assertEqual(shelf_of(*rows).item_of((C, "told", "x")).time, 1)
        self.assertEqual(shelf_of((A, X, 20), (B, X, 10), moves=[(A, B)]).all_items()[0].time, 10)

    def test_version_by_time_then_order(self):
        low, high = Entry(told="x", text="a"), Entry(told="x", text="b")
        for moments, entries in (((5, 5), (high, low)), ((6, 5), (low, high)), ((5, 6), (high, low))):
            item = shelf_of((A, low, moments[0]), (A, high, moments[1])).all_items()[0]
            self.assertEqual((item.entries, item.version, item.time), (entries, entries[0], max(moments)))
        rows = [Entry(told="x"), Entry(told="x", changed=at(9)), Entry(told="x", published=at(9)), Entry(told="x", headline="h"), Entry(told="x", link="//g/1")]
        item = shelf_of(*[(A, entry, 9) for entry in rows]).all_items()[0]
        self.assertEqual(item.entries, tuple(rows[::-1]))

    def test_example(self):
        one, other = Shelf(), Shelf()
        one.see("//h/f", Entry(told="a", text="old"), 20)
        other.see("//h/f", Entry(told="a", text="new"), 10)
        other.see("//h/f", Entry(told="a", text="old"), 5)
        whole = one | other
        item = whole.item_of(("//h/f", "told", "a"))
        self.assertEqual([one.all_items()[0].version.text, item.version.text, item.time, ("//h/f", "told", "b") in whole], ["old", "new", 10, False])

    def test_order_of_items(self):
        rows = [(A, Entry(told="a"), 5), (A, Entry(told="b"), 5), (A, Entry(told="c"), 9), (B, Entry(told="b"), 5), (B, Entry(told="c"), 4),
                (C, Entry(link="//g/1"), 5)]
        for mixed in itertools.permutations(rows):
            items = shelf_of(*mixed).all_items()
            self.assertEqual([(item.time, item.version.told, item.feed[0]) for item in items],
                             [(9, "c", A), (5, "b", A), (5, "b", B), (5, "a", A), (5, None, C), (4, "c", B)])


class GoneTest(RefusalCase):
    def is_gone(self, *rows, moves=()):
        """Whether the one item with these sightings is gone."""
        shelf = shelf_of(*rows, moves=moves)
        lasting, gone = shelf.all_items(), shelf.all_items(gone=True)
        self.assertEqual(len(lasting) + len(gone), 1)
        item = (lasting + gone)[0]
        self.assertIs(item.is_gone, bool(gone))
        return item.is_gone

    def test_notices_without_and_with_a_date(self):
        for moment, date, gone in (
            (9, None, False), (10, None, True), (11, None, True), (10, at(9), False), (20, at(9), False), (20, at(10), True), (20, at(11), True),
            (10, at(99), True), (9, at(99), False), (20, at(10, 60), True), (20, at(9, 60), False),
        ):
            for sign in (("told", "x"), ("link", "//g/1")):
                self.assertIs(self.is_gone((A, Entry(told="x", link="//g/1"), 10), (A, sign + (date,), moment)), gone, (moment, date))

    def test_the_time_of_the_version_counts(self):
        entry = Entry(told="x", changed=at(5))
        self.assertIs(self.is_gone((A, entry, 10), (A, ("told", "x", None), 5)), True)
        self.assertIs(self.is_gone((A, entry, 10), (A, ("told", "x", None), 4)), False)
        rows = ((A, entry, 10), (A, Entry(told="x", text="t"), 12), (A, ("told", "x", at(11)), 20))
        self.assertIs(self.is_gone(*rows), False)
        self.assertIs(self.is_gone(*rows, (A, ("told", "x", at(12)), 20)), True)
        self.assertIs(self.is_gone(*rows, (A, Entry(told="x", text="t"), 11)), True)

    def test_any_sign_of_the_item_will_do(self):
        rows = ((A, Entry(told="x", link="//g/1"), 5), (A, Entry(told="y", link="//g/1"), 6), (A, Entry(told="y", link="//g/2"), 7))
        for sign in (("told", "x"), ("told", "y"), ("link", "//g/1"), ("link", "//g/2")):
            self.assertIs(self.is_gone(*rows, (A, sign + (None,), 7)), True)
        for sign in (("told", "z"), ("link", "//g/3"), ("told", "//g/1")):
            self.assertIs(self.is_gone(*rows, (A, sign + (None,), 7)), False)

    def test_notices_of_the_feed_alone(self):
        rows = ((A, X, 5), (B, ("told", "x", None), 9))
        self.assertIs(self.is_gone(*rows), False)
        self.assertIs(self.is_gone(*rows, moves=[(A, B)]), True)
        self.assertIs(self.is_gone(*rows, moves=[(C, B), (C, A)]), True)
        self.assertIs(self.is_gone(*rows, moves=[(C, B), (D, A)]), False)

    def test_the_least_moment_of_a_notice_in_its_feed(self):
        rows = ((A, X, 5), (A, ("told", "x", None), 9), (B, ("told", "x", None), 4))
        self.assertIs(self.is_gone(*rows), True)
        self.assertIs(self.is_gone(*rows, moves=[(A, B)]), False)
        # A notice with another date is another one.
        self.assertIs(self.is_gone(*rows, (B, ("told", "x", at(6)), 7), moves=[(A, B)]), True)

    def test_entries_of_words_cannot_be_withdrawn(self):
        self.assertIs(self.is_gone((A, Entry(headline="x"), 5), (A, ("told", "x", None), 9)), False)

    def test_gone_items_tell_all(self):
        shelf = shelf_of((A, X, 5), (A, ("told", "x", None), 6), (A, Entry(told="y"), 4), (A, ("told", "y", None), 7), (B, X, 3))
        self.assertEqual([item.version.told for item in shelf.all_items(gone=True)], ["x", "y"])
        self.assertEqual([item.feed for item in shelf.all_items(gone=False)], [(B,)])
        self.assertIs((A, "told", "x") in shelf, True)
        self.assertEqual(told_of(shelf.item_of((A, "told", "x"))), ((A,), ((A, "told", "x"),), X, 5, (X,), True))


class OracleTest(RefusalCase):
    def test_random_shelves(self):
        rng = random.Random(65)
        for _ in range(300):
            rows, moves = some_sightings(rng, rng.randrange(14)), some_moves(rng)
            shelf = shelf_of(*rows, moves=moves)
            expected = shelf_oracle.items(rows, moves)
            for gone in (False, True):
                told = [told_of(item) for item in shelf.all_items(gone=gone)]
                self.assertEqual(told, [tuple(item[word] for word in ("feed", "places", "version", "time", "entries", "is_gone"))
                                        for item in expected if item["is_gone"] == gone])
            for address in ADDRESSES:
                for sign in sorted({sign for item in expected for sign in item["signs"]} | {("told", "none")}):
                    found = [item for item in expected if shelf_oracle.place_belongs(item, moves, (address,) + sign)]
                    self.assertEqual((address,) + sign in shelf, bool(found))
                    if found:
                        self.assertEqual(shelf.item_of((address,) + sign).places, found[0]["places"])

    def test_more_only_joins_items(self):
        rng = random.Random(66)
        for _ in range(150):
            rows, moves = some_sightings(rng, 6), some_moves(rng)
            lesser = shelf_of(*rows, moves=moves)
            greater = fill(lesser.merged(), some_sightings(rng, 3), some_moves(rng))
            for item in lesser.all_items() + lesser.all_items(gone=True):
                wholes = [greater.item_of(place) for place in item.places]
                self.assertEqual(len({whole.places for whole in wholes}), 1)
                self.assertLessEqual(set(item.places), set(wholes[0].places))
                self.assertTrue(all(entry in wholes[0].entries for entry in item.entries))


class PressTest(RefusalCase):
    """The facts of [63]."""

    def check_shelf(self, shelf, press, moment, here):
        """Checks that the items of a feed that are not gone are the entries of the press."""
        entries = press.entries_at(moment)
        items = [item for item in shelf.all_items() if here in item.feed]
        self.assertEqual(sorted(item.version.order for item in items), sorted(entry.order for entry in entries))

    def press(self, rng):
        """A random press with a fetcher of its world."""
        deeds = some_deeds(rng, rng.choice((5, 20, 40)))
        press = do(Press("//h/p0", deeds[0][0], size=rng.choice((1, 2))), deeds)
        world = world_of((press,), style=rng.choice(("rows", "nest")))
        return press, world

    def test_whole_walks(self):
        rng = random.Random(67)
        for _ in range(60):
            press, world = self.press(rng)
            shelf = Shelf()
            fetchers = [Fetcher(world), Fetcher(world)]
            for moment in sorted(rng.choices(range(press.moments[0], press.moments[-1] + 3), k=8)):
                had = [address for address in press.addresses if press.page_at(address, moment) is not None]
                told = walk(rng.choice(fetchers), rng.choice(had), moment)
                self.assertEqual(told.word, "whole")
                shelf.take_walk(told)
                self.check_shelf(shelf, press, moment, told.here)

    def test_walks_in_any_order(self):
        rng = random.Random(68)
        for _ in range(40):
            press, world = self.press(rng)
            moments = sorted(rng.choices(range(press.moments[0], press.moments[-1] + 3), k=6))
            walks = [walk(Fetcher(world), press.addresses[0], moment) for moment in moments]
            rng.shuffle(walks)
            shelf = Shelf()
            for told in walks:
                shelf.take_walk(told)
            self.check_shelf(shelf, press, moments[-1], press.addresses[0])
            self.assertEqual({item.feed for item in shelf.all_items()} - {shelf.feed_of(press.addresses[0])}, set())

    def test_walks_that_end_early(self):
        rng = random.Random(69)
        for _ in range(60):
            press, world = self.press(rng)
            fetcher = Fetcher(world)
            shelf = Shelf()
            known = ()
            for moment in sorted(rng.choices(range(press.moments[0], press.moments[-1] + 3), k=6)):
                told = walk(fetcher, press.addresses[0], moment, known=rng.choice((known, ())))
                known = told.known
                shelf.take_walk(told)
                first = told.pages[0][1]
                entries = {entry.told: entry for entry in press.entries_at(moment)}
                lasting = {item.version.told: item for item in shelf.all_items()}
                for entry in first.entries:
                    self.assertEqual(lasting[entry.told].version, entries[entry.told])
                self.assertEqual([item for item in lasting if item in {notice[1] for notice in first.notices}], [])


if __name__ == "__main__":
    unittest.main()
