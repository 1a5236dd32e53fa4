"""Libraries, their notes, readings, conflicts, chains, rows and trials: promises [70] to [75] and [85]."""

import itertools
import random

from feedreader.dates import LAST_MOMENT, date_of
from feedreader.errors import (
    BadAddress, BadDevice, BadFolder, BadLibrary, BadMoment, BadThing, FeedError, Gap, NoItem, NoNote, Torn,
)
from feedreader.fetchers import Fetcher
from feedreader.libraries import Library
from feedreader.pages import Entry, Page
from feedreader.shelves import Shelf
from feedreader.walks import walk
from feedreader.worlds import World, rows_of
from tests import library_oracle
from tests.cases import RefusalCase
from tests.library_oracle import do_something, some_libraries
from tests.objects import ODD_OBJECTS
from tests.shelf_oracle import ADDRESSES, fill
from tests.test_shelves import NO_ADDRESSES, NO_MOMENTS, NO_PLACES, NO_THINGS

A, B, C, D = ADDRESSES
X, X2, XL, Y = Entry(told="x"), Entry(told="x", text="t"), Entry(told="x", link="//g/1"), Entry(told="y")
PX, PY, PL = (A, "told", "x"), (A, "told", "y"), (A, "link", "//g/1")
NO_FOLDERS = tuple(value for value in ODD_OBJECTS if value is not None and value != "x") + (" x", "x ", "x\n", "x" * 21, ["x"], " ")


def library_of(device, *sightings, moves=()):
    """A library with these sightings and moves."""
    return fill(Library(device), sightings, moves)


def all_of(library):
    """All that a library tells."""
    places = library_oracle.places(library)
    return (
        library.shelf.sightings, library.shelf.moves, library.notes, library.rows(), library.counts(), library.conflicts(),
        library.vector(), [(library.reading_of(place), library.is_starred(place)) for place in places],
        [library.folder_of(address) for address in ADDRESSES], [library.chain(note[0]) for note in library.notes],
    )


class NoteTest(RefusalCase):
    def test_devices(self):
        for device in ("a", "z", "abcdefgh", "zzzzzzzz"):
            library = Library(device=device)
            self.assertEqual((library.notes, library.rows(), library.counts(), library.conflicts(), library.vector()), ((), (), {}, (), {}))
            self.assertEqual(library.shelf, Shelf())
            self.assertEqual(library.file_feed(A, "f"), (1, device))
        for device in tuple(value for value in ODD_OBJECTS if value != "x") + ("abcdefghi", "A", "a1", "a b", "a\n", " a", "-", ["a"], ("a",)):
            self.check_refused(BadDevice, {"given": device}, Library, device)

    def test_properties_are_only_read(self):
        for name in ("shelf", "notes"):
            with self.assertRaises(AttributeError):
                setattr(Library("a"), name, None)

    def test_each_sort_of_note(self):
        library = library_of("a", (A, XL, 5), (C, X2, 6), (D, Y, 7), moves=[(A, B), (C, B)])
        places = (PL, PX, (C, "told", "x"))
        for number, (method, kind, value) in enumerate((
            (library.mark_read, "read", X2), (library.mark_unread, "read", None), (library.star, "star", True), (library.unstar, "star", False),
        ), start=1):
            self.assertEqual(method(place=(B, "link", "//g/1")), (number, "a"))
            over = ((number - 1, "a"),) if number in (2, 4) else ()
            self.assertEqual(library.notes[-1], ((number, "a"), kind, places, value, over))
        self.assertEqual(library.file_feed(address=C, folder="f"), (5, "a"))
        self.assertEqual(library.file_feed(A, None), (6, "a"))
        self.assertEqual(library.file_feed("//h/unknown", "x" * 20), (7, "a"))
        self.assertEqual(library.notes[4:], (
            ((5, "a"), "folder", (A, B, C), "f", ()), ((6, "a"), "folder", (A, B, C), None, ((5, "a"),)),
            ((7, "a"), "folder", ("//h/unknown",), "x" * 20, ())))

    def test_numbers_count_on_behind_all_notes(self):
        one, other = library_of("b", (A, X, 5)), library_of("a", (B, X, 5))
        self.assertEqual([one.star(PX), one.star(PX), other.star((B, "told", "x"))], [(1, "b"), (2, "b"), (1, "a")])
        other.take(one)
        self.assertEqual(other.unstar((B, "told", "x")), (3, "a"))
        self.assertEqual(other.star(PX), (4, "a"))
        self.assertEqual([note[0] for note in other.notes], [(1, "a"), (1, "b"), (2, "b"), (3, "a"), (4, "a")])
        one.take(other)
        self.assertEqual(one.file_feed(A, "f"), (5, "b"))

    def test_over(self):
        libraries = [library_of(device, (A, X, 5), (B, X, 5), (A, Y, 5)) for device in "abc"]
        for library in libraries:
            library.mark_read(PX)
            library.mark_read(PY)
            library.star(PX)
        one = libraries[0]
        one.take(*libraries)
        self.assertEqual(one.mark_unread(PX), (4, "a"))
        self.assertEqual(one.notes[-1], ((4, "a"), "read", (PX,), None, ((1, "a"), (1, "b"), (1, "c"))))
        one.mark_read((B, "told", "x"))
        self.assertEqual(one.notes[-1][4], ())
        one.learn(B, A)
        one.mark_read(PX)
        self.assertEqual(one.notes[-1], ((6, "a"), "read", (PX, (B, "told", "x")), X, ((4, "a"), (5, "a"))))

    def test_over_of_feeds(self):
        library = library_of("a")
        library.file_feed(A, "f")
        library.file_feed(B, "g")
        library.file_feed(C, "g")
        library.learn(A, B)
        library.file_feed(B, "h")
        self.assertEqual(library.notes[-1], ((4, "a"), "folder", (A, B), "h", ((1, "a"), (2, "a"))))
        self.assertEqual([library.folder_of(address) for address in ADDRESSES], ["h", "h", "g", None])

    def test_notes_of_what_is_gone(self):
        library = library_of("a", (A, X, 5), (A, ("told", "x", None), 6))
        self.assertEqual([library.mark_read(PX), library.star(PX)], [(1, "a"), (2, "a")])
        self.assertEqual((library.reading_of(PX), library.is_starred(PX), library.rows()), ("read", True, ()))
        self.assertEqual([library.mark_unread(PX), library.unstar(PX)], [(3, "a"), (4, "a")])
        self.assertEqual((library.reading_of(PX), library.is_starred(PX)), ("unread", False))

    def test_notes_keep_what_was_then(self):
        library = library_of("a", (A, X, 5))
        library.mark_read(PX)
        library.see(A, Entry(told="x", link="//g/1"), 9)
        library.learn(A, B)
        self.assertEqual(library.notes, (((1, "a"), "read", (PX,), X, ()),))

    def test_what_is_refused(self):
        library = library_of("a", (A, X, 5), moves=[(A, B)])
        library.star(PX)
        known = all_of(library)
        for place in NO_PLACES:
            if place == (B, "told", "x"):
                continue
            for method in (library.mark_read, library.mark_unread, library.star, library.unstar, library.reading_of, library.is_starred):
                self.check_refused(NoItem, {"given": place}, method, place)
        for address in NO_ADDRESSES:
            self.check_refused(BadAddress, {"given": address}, library.file_feed, address, "f")
            self.check_refused(BadAddress, {"given": address}, library.file_feed, address, 5)
            self.check_refused(BadAddress, {"given": address}, library.folder_of, address)
            self.check_refused(BadAddress, {"given": address}, library.see, address, None, None)
            self.check_refused(BadAddress, {"given": address}, library.learn, A, address)
        for folder in NO_FOLDERS:
            self.check_refused(BadFolder, {"given": folder}, library.file_feed, A, folder)
        for thing in NO_THINGS:
            self.check_refused(BadThing, {"given": thing}, library.see, A, thing, None)
        for moment in NO_MOMENTS:
            self.check_refused(BadMoment, {"given": moment}, library.see, A, X, moment)
        self.check_refused(BadAddress, {"given": A}, library.learn, A, A)
        for stamp in ODD_OBJECTS + ((1, "b"), (2, "a"), (0, "a"), (True, "a"), (1.0, "a"), [1, "a"], (1,), (1, "a", 1), (1, ["a"]), ("a", 1), ([1], "a")):
            self.check_refused(NoNote, {"stamp": stamp}, library.chain, stamp)
        self.assertEqual(all_of(library), known)

    def test_shelf_is_a_copy(self):
        library = library_of("a", (A, X, 5))
        shelf = library.shelf
        shelf.see(A, Y, 5)
        shelf.learn(A, B)
        self.assertEqual(library.shelf.sightings, ((A, X, 5),))
        library.see(A, Y, 4)
        self.assertEqual(shelf.sightings, ((A, X, 5), (A, Y, 5)))

    def test_take_walk(self):
        rows = rows_of(((B, Page(entries=(X,), notices=(("told", "y", None),))),), 0) + ((A, 0, ("moved", B, True)),)
        told = walk(Fetcher(World(rows)), A, 9)
        library, shelf = Library("a"), Shelf()
        self.assertIsNone(library.take_walk(walk=told))
        shelf.take_walk(told)
        self.assertEqual(library.shelf, shelf)
        self.assertEqual(library.shelf.moves, ((A, B),))
        self.assertIsNone(library.see(feed=C, thing=X, moment=LAST_MOMENT))
        self.assertIsNone(library.learn(old=C, new=D))
        self.assertEqual((library.shelf.sightings[-1], library.shelf.moves), ((C, X, LAST_MOMENT), ((A, B), (C, D))))


class TakeTest(RefusalCase):
    def test_take(self):
        one, other = library_of("a", (A, X, 5), (A, Y, 6)), library_of("b", (A, X, 4), (B, Y, 7), moves=[(A, B)])
        one.star(PX)
        other.mark_read(PX)
        known = all_of(other)
        self.assertIsNone(one.take(other))
        self.assertEqual(one.shelf.sightings, ((A, X, 4), (A, Y, 6), (B, Y, 7)))
        self.assertEqual((one.shelf.moves, [note[0] for note in one.notes]), (((A, B),), [(1, "a"), (1, "b")]))
        self.assertEqual(all_of(other), known)
        one.see(C, X, 5)
        one.mark_unread(PX)
        self.assertEqual(all_of(other), known)
        self.assertIsNone(one.take())

    def test_wrong_libraries(self):
        one, other = library_of("a", (A, X, 5)), library_of("b", (A, X, 4))
        other.star(PX)
        known = all_of(one)
        for value in ODD_OBJECTS + (Library, Shelf(), [other], (other,)):
            self.check_refused(BadLibrary, {"number": 0}, one.take, value, None)
            self.check_refused(BadLibrary, {"number": 2}, one.take, other, one, value, other)
        self.assertEqual(all_of(one), known)

    def torn(self, device, *numbers):
        """A library whose notes of these numbers are others than those of its namesakes."""
        library = library_of(device, (A, X, 5))
        for number in range(1, max(numbers) + 1):
            library.file_feed(A, f"{number} {numbers}" if number in numbers else "f")
        return library

    def test_torn(self):
        one, two, three = self.torn("a", 3), self.torn("a", 2, 3), self.torn("b", 1, 2)
        known = all_of(one)
        for others, stamp in (((two,), (2, "a")), ((three, two), (2, "a")), ((two, three, two), (2, "a")), ((self.torn("b", 1), three), (1, "b")),
                              ((three, self.torn("b", 2), two), (1, "b")), ((self.torn("a", 1, 4), two), (1, "a"))):
            self.check_refused(Torn, {"stamp": stamp}, one.take, *others)
            self.assertEqual(all_of(one), known)
        self.check_refused(BadLibrary, {"number": 1}, one.take, two, None)
        empty = Library("c")
        self.check_refused(Torn, {"stamp": (2, "a")}, empty.take, one, two)
        self.assertEqual((empty.notes, empty.shelf), ((), Shelf()))
        one.take(three, one)
        self.assertEqual(one.vector(), {"a": 3, "b": 2})

    def test_notes_that_differ_in_any_part_are_torn(self):
        base = library_of("a", (A, X, 5))
        base.mark_read(PX)
        others = [library_of("a", (A, X, 5)) for _ in range(4)]
        others[0].mark_unread(PX)
        others[1].star(PX)
        others[2].learn(A, B)
        others[2].see(B, X, 5)
        others[2].mark_read(PX)
        others[3].see(A, X2, 5)
        others[3].mark_read(PX)
        for other in others:
            self.check_refused(Torn, {"stamp": (1, "a")}, base.take, other)
        same = library_of("a", (A, X, 3))
        same.mark_read(PX)
        base.take(same)
        self.assertEqual((len(base.notes), base.shelf.sightings), (1, ((A, X, 3),)))

    def test_take_in_any_order_and_twice(self):
        rng = random.Random(73)
        for _ in range(40):
            libraries = [Library(device) for device in "abcd"]
            for library, bundle in some_libraries(rng, libraries, 25):
                try:
                    library.take_bundle(bundle)
                except Gap:
                    pass
            told = []
            for order in itertools.islice(itertools.permutations(libraries), 0, 24, 5):
                whole = Library("z")
                for library in order:
                    whole.take(library)
                    whole.take(*rng.choices(order, k=rng.randrange(3)))
                whole.take(*order, whole)
                told.append(all_of(whole))
            self.assertTrue(all(row == told[0] for row in told))
            one, other, third, _ = libraries
            left, right = Library("y"), Library("x")
            left.take(one, other)
            left.take(third)
            right.take(other, third)
            right.take(one)
            self.assertEqual(all_of(left), all_of(right))
            known = all_of(one)
            one.take(one)
            one.take(one, one)
            self.assertEqual(all_of(one), known)


class ReadingTest(RefusalCase):
    def test_unread_newer_read(self):
        library = library_of("a", (A, X, 5))
        self.assertEqual(library.reading_of(place=PX), "unread")
        library.mark_read(PX)
        self.assertEqual(library.reading_of(PX), "read")
        library.see(A, X2, 6)
        self.assertEqual(library.reading_of(PX), "newer")
        library.see(A, X2, 4)
        self.assertEqual(library.reading_of(PX), "read")
        library.mark_unread(PX)
        self.assertEqual(library.reading_of(PX), "unread")
        library.mark_read(PX)
        self.assertEqual(library.reading_of(PX), "read")

    def test_example(self):
        library, other = library_of("a", (A, X, 10)), library_of("b", (A, X2, 5))
        library.mark_read(PX)
        library.see(A, X2, 12)
        self.assertEqual(library.reading_of(PX), "newer")
        library.mark_read(PX)
        library.take(other)
        self.assertEqual((library.rows()[0][0], library.reading_of(PX)), (X, "read"))

    def test_what_is_over_a_note_that_says_unread_does_not_count(self):
        library = library_of("a", (A, X, 10))
        library.mark_read(PX)
        library.see(A, X2, 12)
        library.mark_unread(PX)
        library.mark_read(PX)
        library.see(A, X2, 5)
        self.assertEqual((library.rows()[0][0], library.reading_of(PX)), (X, "newer"))

    def test_all_open_notes_count(self):
        one, other = library_of("a", (A, X, 10)), library_of("b", (A, X2, 12))
        one.mark_read(PX)
        other.mark_read(PX)
        one.take(other)
        self.assertEqual((one.rows()[0][0], one.reading_of(PX)), (X2, "read"))
        one.see(A, X2, 5)
        self.assertEqual((one.rows()[0][0], one.reading_of(PX), one.conflicts()), (X, "read", ()))

    def test_the_winner_has_the_greatest_stamp(self):
        for devices, reading in (("ab", "unread"), ("ba", "read")):
            one, other = library_of(devices[0], (A, X, 5)), library_of(devices[1], (A, X, 5))
            one.mark_read(PX)
            other.mark_unread(PX)
            one.take(other)
            self.assertEqual(one.reading_of(PX), reading)
            self.assertEqual(one.conflicts(), (("read", ((1, "a"), (1, "b"))),))
        one, other = library_of("a", (A, X, 5)), library_of("b", (A, X, 5))
        one.file_feed(A, "f")
        one.mark_read(PX)
        other.mark_unread(PX)
        one.take(other)
        self.assertEqual(one.reading_of(PX), "read")

    def test_entries_that_were_not_seen_in_the_item(self):
        one = library_of("a", (A, X, 5))
        one.mark_read(PX)
        # The note alone is handed on in a bundle, the sighting of its entry is not.
        for rows, reading in ((((A, X2, 3),), "newer"), (((A, X2, 3), (B, X, 2)), "newer"), (((A, X2, 3), (A, X, 2)), "newer"), (((A, X2, 3), (A, X, 4)), "read")):
            other = library_of("b", *rows)
            other.take_bundle(({}, (), (), one.notes))
            self.assertEqual(other.reading_of(PX), reading)

    def test_readings_of_joined_items(self):
        library = library_of("a", (A, X, 5), (B, X2, 6))
        library.mark_read(PX)
        library.star((B, "told", "x"))
        self.assertEqual([row[2:4] for row in library.rows()], [("unread", True), ("read", False)])
        library.learn(B, A)
        self.assertEqual([row[2:4] for row in library.rows()], [("newer", True)])
        library.mark_read((B, "told", "x"))
        self.assertEqual(library.reading_of(PX), "read")

    def test_a_note_of_an_address_alone_bears_on_the_feed_that_it_joins(self):
        library = library_of("a", (A, X, 5))
        library.mark_read(PX)
        library.learn(C, B)
        library.learn(B, A)
        self.assertEqual(library.reading_of((C, "told", "x")), "read")
        other = library_of("b", (C, X2, 4))
        other.take(library)
        self.assertEqual(other.reading_of((C, "told", "x")), "read")

    def test_what_was_read_stays_read(self):
        rng = random.Random(731)
        for _ in range(60):
            libraries = [Library(device) for device in "abc"]
            for library, bundle in some_libraries(rng, libraries, 40):
                try:
                    library.take_bundle(bundle)
                except Gap:
                    pass
            for library in libraries:
                notes = library.notes
                for item in library_oracle.shelf_oracle.items(library.shelf.sightings, library.shelf.moves):
                    moves = library.shelf.moves
                    told = [note for note in notes if note[1] == "read" and library_oracle.bears(note, moves, item)]
                    for note in told:
                        if note[3] is not None and library.reading_of(item["places"][0]) == "unread":
                            self.assertTrue(self.has_unread_behind(note, notes, moves, item))

    def has_unread_behind(self, note, notes, moves, item):
        """Whether a row of notes leads from this one to one that says unread."""
        reached = [note]
        for one in reached:
            later = [other for other in notes if one[0] in other[4]]
            later += [other for other in library_oracle.bearing("read", notes, moves, item) if other[0] > one[0]]
            reached += [other for other in later if other not in reached]
        return any(other[3] is None for other in reached[1:])


class WinnerTest(RefusalCase):
    def test_stars(self):
        library = library_of("a", (A, X, 5), (A, Y, 6))
        self.assertIs(library.is_starred(place=PX), False)
        library.star(PX)
        self.assertEqual((library.is_starred(PX), library.is_starred(PY)), (True, False))
        library.unstar(PX)
        self.assertIs(library.is_starred(PX), False)
        library.star(PX)
        self.assertIs(library.is_starred(PX), True)
        self.assertEqual(library.reading_of(PX), "unread")

    def test_stars_of_items_that_grow(self):
        library = library_of("b", (B, X, 5))
        place = (B, "told", "x")
        library.learn(A, B)
        library.star(place)
        told = [library.is_starred(place)]
        library.see(A, XL, 6)
        told += [library.is_starred(place), library.is_starred(PL), library.rows()[0][3]]
        rows = rows_of((("//g/a", Page(entries=(Y, XL))),), 0) + ((A, 0, ("moved", "//g/a", True)),)
        library.take_walk(walk(Fetcher(World(rows)), A, 9))
        told += [library.is_starred(place), library.is_starred(("//g/a", "told", "x")), library.rows()[0][3]]
        self.assertEqual(told, [True] * 6 + [False])
        self.assertEqual([row[3] for row in library.rows()], [False, True])
        self.assertEqual(library.unstar(PL), (2, "b"))
        self.assertEqual((library.notes[-1][4], library.is_starred(place)), (((1, "b"),), False))

    def test_folders_of_feeds_that_grow(self):
        library = Library("a")
        library.file_feed(B, "f")
        self.assertEqual(library.folder_of(B), "f")
        library.learn(B, A)
        self.assertEqual([library.folder_of(A), library.folder_of(B)], ["f", "f"])
        rows = ((A, 0, ("moved", "//g/a", True)),)
        library.take_walk(walk(Fetcher(World(rows)), A, 9))
        self.assertEqual([library.folder_of(address) for address in (A, B, "//g/a")], ["f", "f", "f"])
        other = Library("b")
        other.learn("//f/", B)
        library.take(other)
        self.assertEqual([library.folder_of(address) for address in ("//f/", A, B)], ["f", "f", "f"])

    def test_folders(self):
        library = library_of("a", (A, X, 5), (B, X, 6))
        self.assertIsNone(library.folder_of(address=A))
        library.file_feed(A, "f")
        library.file_feed(C, "g")
        self.assertEqual([library.folder_of(address) for address in (A, B, C, "//h/z")], ["f", None, "g", None])
        library.learn(B, C)
        self.assertEqual([library.folder_of(address) for address in (A, B, C)], ["f", "g", "g"])
        library.learn(C, A)
        self.assertEqual([library.folder_of(address) for address in (A, B, C)], ["g", "g", "g"])
        self.assertEqual(library.conflicts(), (("folder", ((1, "a"), (2, "a"))),))
        library.file_feed(B, None)
        self.assertEqual(([library.folder_of(address) for address in (A, B, C)], library.conflicts()), ([None] * 3, ()))

    def test_folders_of_lines(self):
        library = Library("a")
        for folder in ("x", "x y", "x" * 20, "-", "0", None):
            library.file_feed(A, folder)
            self.assertEqual(library.folder_of(A), folder)


class ConflictTest(RefusalCase):
    def pair(self, one_does, other_does, moves=()):
        """A library that has taken another one, after both did something to an item."""
        one, other = [library_of(device, (A, X, 5), moves=moves) for device in "ab"]
        one_does(one)
        other_does(other)
        one.take(other)
        return one

    def test_reads(self):
        for does, other_does, told in (
            (lambda one: one.mark_read(PX), lambda one: one.mark_read(PX), False),
            (lambda one: one.mark_unread(PX), lambda one: one.mark_unread(PX), False),
            (lambda one: one.mark_unread(PX), lambda one: one.mark_read(PX), True),
            (lambda one: one.mark_read(PX), lambda one: (one.see(A, X2, 6), one.mark_read(PX)), False),
            (lambda one: one.star(PX), lambda one: one.star(PX), False),
            (lambda one: one.star(PX), lambda one: one.unstar(PX), True),
            (lambda one: one.star(PX), lambda one: one.mark_unread(PX), False),
            (lambda one: one.file_feed(A, "f"), lambda one: one.file_feed(A, "f"), False),
            (lambda one: one.file_feed(A, None), lambda one: one.file_feed(A, None), False),
            (lambda one: one.file_feed(A, "f"), lambda one: one.file_feed(A, "g"), True),
            (lambda one: one.file_feed(A, "f"), lambda one: one.file_feed(A, None), True),
            (lambda one: one.file_feed(A, "f"), lambda one: one.file_feed(B, "g"), False),
        ):
            one = self.pair(does, other_does)
            kind = one.notes[0][1]
            self.assertEqual(one.conflicts(), ((kind, ((1, "a"), (1, "b"))),) if told else ())

    def test_of_what_is_gone(self):
        one = self.pair(lambda one: one.star(PX), lambda one: one.unstar(PX))
        one.see(A, ("told", "x", None), 9)
        self.assertEqual((one.rows(), one.conflicts()), ((), (("star", ((1, "a"), (1, "b"))),)))

    def test_of_feeds_without_sightings(self):
        one, other = Library("a"), Library("b")
        one.file_feed("//h/z", "f")
        other.file_feed("//h/z", "g")
        one.take(other)
        self.assertEqual((one.conflicts(), one.folder_of("//h/z")), ((("folder", ((1, "a"), (1, "b"))),), "g"))

    def test_all_open_notes_belong_to_it(self):
        libraries = [library_of(device, (A, X, 5)) for device in "abc"]
        for library, word in zip(libraries, ("f", "g", "f")):
            library.file_feed(A, word)
        libraries[0].take(*libraries)
        self.assertEqual(libraries[0].conflicts(), (("folder", ((1, "a"), (1, "b"), (1, "c"))),))

    def test_a_new_note_ends_it(self):
        one = self.pair(lambda one: one.mark_read(PX), lambda one: one.mark_unread(PX))
        for note in (one.mark_read, one.mark_unread):
            library = Library("c")
            library.take(one)
            note(PX)
            self.assertEqual(one.conflicts(), ())
            library.take(one)
            self.assertEqual(library.conflicts(), ())

    def test_order(self):
        one, other = [library_of(device, (A, X, 5), (A, Y, 6)) for device in "ab"]
        for library, value in ((one, "f"), (other, "g")):
            library.file_feed(A, value)
        for place in (PY, PX):
            one.mark_read(place)
            one.star(place)
            other.mark_unread(place)
            other.unstar(place)
        one.take(other)
        self.assertEqual(one.conflicts(), (
            ("folder", ((1, "a"), (1, "b"))), ("read", ((2, "a"), (2, "b"))), ("read", ((4, "a"), (4, "b"))),
            ("star", ((3, "a"), (3, "b"))), ("star", ((5, "a"), (5, "b")))))

    def test_each_once(self):
        # Notes of a bundle may bear on two items; together they are one conflict.
        library = library_of("a", (A, X, 5), (A, Y, 6))
        library.take_bundle(({}, (), (), (((1, "b"), "star", (PX, PY), True, ()), ((1, "c"), "star", (PX, PY), False, ()))))
        self.assertEqual(library.conflicts(), (("star", ((1, "b"), (1, "c"))),))


class ChainTest(RefusalCase):
    def test_chains(self):
        library = library_of("a", (A, X, 5))
        for _ in range(4):
            library.mark_read(PX)
        library.star(PX)
        self.assertEqual([library.chain(stamp=(number, "a")) for number in (1, 3, 4, 5)],
                         [((1, "a"), (2, "a"), (3, "a"), (4, "a")), ((3, "a"), (4, "a")), ((4, "a"),), ((5, "a"),)])

    def note(self, stamp, *over):
        """A note on a feed that has others in its over."""
        return (stamp, "folder", (A,), "f", tuple(sorted(over)))

    def chain(self, stamp, *notes):
        """The chain of a note in a library that has these notes."""
        library = Library("z")
        library.take_bundle(({}, (), (), notes))
        return library.chain(stamp)

    def test_the_shortest_and_the_least(self):
        a1, b2, c2, a3, b4, c4, d5 = (1, "a"), (2, "b"), (2, "c"), (3, "a"), (4, "b"), (4, "c"), (5, "d")
        note = self.note
        self.assertEqual(self.chain(a1, note(a1), note(b2, a1), note(c2, a1)), (a1, b2))
        self.assertEqual(self.chain(a1, note(a1), note(b2, a1), note(a3, b2), note(c4, a1)), (a1, c4))
        self.assertEqual(self.chain(a1, note(a1), note(c4, b2, a1), note(b2, a1)), (a1, c4))
        self.assertEqual(self.chain(a1, note(a1), note(b2, a1), note(c2, a1), note(b4, c2), note(c4, b2)), (a1, b2, c4))
        self.assertEqual(self.chain(a1, note(a1), note(b2, a1), note(c2, a1), note(a3, b2), note(b4, a3), note(c4, c2)), (a1, c2, c4))
        self.assertEqual(self.chain(a1, note(a1), note(b2, a1), note(c2, a1), note(b4, b2, c2), note(c4, b2), note(d5, b4)), (a1, b2, c4))
        self.assertEqual(self.chain(c4, note(a1), note(c4, (3, "q"))), (c4,))
        self.assertEqual(self.chain((2, "b"), note((2, "b")), note((10, "a"), (2, "b")), note((3, "c"), (2, "b"))), ((2, "b"), (3, "c")))

    def test_a_long_one(self):
        library = library_of("a", (A, X, 5))
        for _ in range(400):
            library.star(PX)
        self.assertEqual(library.chain((1, "a")), tuple((number, "a") for number in range(1, 401)))


class RowTest(RefusalCase):
    def test_rows_and_counts(self):
        newest = Entry(told="n", changed=date_of(30))
        library = library_of("a", (A, X, 5), (A, X2, 8), (B, Y, 8), (C, newest, 40), (C, Y, 50), (C, ("told", "y", None), 60), (D, Y, 1),
                             moves=[(D, "//h/e")])
        library.mark_read(PX)
        library.star((B, "told", "y"))
        library.file_feed(C, "f")
        library.file_feed(A, "f")
        library.mark_read((C, "told", "n"))
        library.see(A, Entry(told="x", text="u"), 9)
        rows = library.rows()
        self.assertEqual(rows, (
            (newest, 30, "read", False, "f", (C,)), (Entry(told="x", text="u"), 9, "newer", False, "f", (A,)), (Y, 8, "unread", True, None, (B,)),
            (Y, 1, "unread", False, None, (D, "//h/e"))))
        self.assertEqual(library.counts(), {"f": (2, 0, 1), None: (2, 2, 0)})
        library.counts().clear()
        self.assertEqual(library.counts(), {"f": (2, 0, 1), None: (2, 2, 0)})

    def test_order(self):
        rows = [(A, Entry(told="a"), 5), (A, Entry(told="b"), 5), (A, Entry(told="c"), 9), (B, Entry(told="b"), 5), (C, Entry(told="b"), 5)]
        for mixed in itertools.permutations(rows):
            library = library_of("a", *mixed)
            self.assertEqual([(row[1], row[0].told, row[5]) for row in library.rows()],
                             [(9, "c", (A,)), (5, "b", (A,)), (5, "b", (B,)), (5, "b", (C,)), (5, "a", (A,))])

    def test_counts_of_folders_without_rows(self):
        library = library_of("a", (A, X, 5), (A, ("told", "x", None), 5))
        library.file_feed(A, "f")
        library.file_feed(B, "g")
        self.assertEqual(library.counts(), {})

    def test_example(self):
        one, other, place = Library("a"), Library("b"), ("//h/f", "told", "x")
        one.see("//h/f", Entry(told="x"), 5)
        other.take(one)
        told = [one.mark_read(place), other.mark_unread(place)]
        one.take(other)
        told = told + [one.conflicts(), one.reading_of(place)]
        self.assertEqual(
            told + [one.mark_read(place), one.conflicts(), one.chain((1, "b"))],
            [(1, "a"), (1, "b"), (("read", ((1, "a"), (1, "b"))),), "unread", (2, "a"), (), ((1, "b"), (2, "a"))])


class TrialTest(RefusalCase):
    def library(self):
        """A library that has something of everything."""
        library = library_of("a", (A, X, 5), (A, Y, 6), moves=[(A, B)])
        library.mark_read(PX)
        library.star(PX)
        library.file_feed(A, "f")
        return library

    def test_a_trial_leaves_the_library(self):
        library, other = self.library(), library_of("b", (A, X2, 9))
        other.mark_unread(PX)
        known, others = all_of(library), all_of(other)

        def change(given):
            self.assertIs(given, library)
            stamps = [given.mark_unread(PX), library.star(PY), given.unstar(PX), given.mark_read(PY), given.file_feed(C, "g")]
            given.see(C, Entry(told="z"), 3)
            library.learn(C, A)
            library.take(other)
            given.take_bundle(other.bundle({}))
            self.assertNotEqual(all_of(given), known)
            return stamps

        self.assertEqual(library.trial(function=change), [(number, "a") for number in range(4, 9)])
        self.assertEqual((all_of(library), all_of(other)), (known, others))
        self.assertEqual(library.mark_unread(PX), (4, "a"))

    def test_what_it_returns(self):
        for value in (None, 5, [1], "x"):
            self.assertIs(self.library().trial(lambda library: value), value)
        rows = self.library().trial(lambda library: (library.mark_unread(PX), library.rows())[1])
        self.assertEqual([row[2] for row in rows], ["unread", "unread"])

    def test_exceptions_pass(self):
        library = self.library()
        known = all_of(library)

        def fail(given, error):
            given.mark_unread(PX)
            given.see(A, X2, 9)
            raise error

        for error in (ValueError("x"), KeyError(1), FeedError(), Torn((1, "a")), SystemExit(), KeyboardInterrupt()):
            with self.assertRaises(type(error)) as caught:
                library.trial(lambda given: fail(given, error))
            self.assertIs(caught.exception, error)
            self.assertEqual(all_of(library), known)
        self.check_refused(NoItem, {"given": None}, library.trial, lambda given: given.star(None))
        self.assertEqual(all_of(library), known)

    def test_trials_in_trials(self):
        library = self.library()
        known = all_of(library)

        def outer(given):
            given.star(PY)
            between = all_of(given)

            def inner(again):
                again.unstar(PY)
                library.see(D, X, 5)
                return all_of(again)

            told = given.trial(inner)
            self.assertNotEqual(told, between)
            self.assertEqual(all_of(library), between)
            with self.assertRaises(KeyError):
                library.trial(lambda again: (again.learn(C, D), {}[again.star(PX)]))
            self.assertEqual(all_of(given), between)
            given.mark_read(PY)
            return told

        library.trial(outer)
        self.assertEqual(all_of(library), known)

    def test_another_library_keeps_what_it_took(self):
        library, other = self.library(), Library("b")
        library.trial(lambda given: (given.star(PY), other.take(given)))
        self.assertEqual([note[0] for note in other.notes], [(number, "a") for number in range(1, 5)])
        self.assertEqual(len(library.notes), 3)

    def test_what_a_library_told_before_stays(self):
        library = self.library()
        rows, notes, shelf = library.rows(), library.notes, library.shelf
        library.trial(lambda given: (given.star(PY), given.see(A, X2, 9)))
        self.assertEqual((library.rows(), library.notes, library.shelf), (rows, notes, shelf))


class OracleTest(RefusalCase):
    def test_random_libraries(self):
        rng = random.Random(70)
        many = 0
        for _ in range(150):
            libraries = [Library(device) for device in "abc"]
            for library, bundle in some_libraries(rng, libraries, rng.choice((10, 30, 50))):
                try:
                    library.take_bundle(bundle)
                except Gap:
                    pass
            for library in libraries:
                sightings, moves, notes = library.shelf.sightings, library.shelf.moves, library.notes
                self.assertEqual(library.rows(), library_oracle.rows(sightings, moves, notes))
                conflicts = library.conflicts()
                self.assertEqual(conflicts, library_oracle.conflicts(sightings, moves, notes))
                many += len(conflicts)
                for note in notes:
                    chains = library_oracle.chains(notes, note[0])
                    self.assertEqual(library.chain(note[0]), min(chains, key=lambda chain: (len(chain), chain)))
                counts = {}
                for row in library.rows():
                    counts.setdefault(row[4], []).append(row[2])
                self.assertEqual(library.counts(), {folder: (len(told), told.count("unread"), told.count("newer")) for folder, told in counts.items()})
        self.assertGreater(many, 40)

    def test_new_notes(self):
        rng = random.Random(71)
        for _ in range(40):
            libraries = [Library(device) for device in "ab"]
            for _ in range(30):
                known = [library.notes for library in libraries]
                library = do_something(rng, libraries)
                old = known[libraries.index(library)]
                if len(library.notes) > len(old):
                    [note] = [note for note in library.notes if note not in old]
                    moves = library.shelf.moves
                    self.assertEqual(note[0], (1 + max([other[0][0] for other in old], default=0), "ab"[libraries.index(library)]))
                    targets = [item for item in library_oracle.shelf_oracle.items(library.shelf.sightings, moves)]
                    targets += [library.shelf.feed_of(note[2][0])] if note[1] == "folder" else []
                    [target] = [target for target in targets if library_oracle.bears(note, moves, target)]
                    self.assertEqual(note[2], target if note[1] == "folder" else target["places"])
                    self.assertEqual(note[4], tuple(other[0] for other in library_oracle.bearing(note[1], old, moves, target)))
                    self.assertEqual(library_oracle.bearing(note[1], library.notes, moves, target), [note])
                    if note[1] == "read":
                        self.assertIn(note[3], (None, target["version"]))
                if rng.random() < 0.2:
                    libraries[0].take(libraries[1])
