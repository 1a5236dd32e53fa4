"""Vectors and bundles of libraries: promise [86]."""

import copy
import random

from feedreader.dates import LAST_MOMENT, date_of
from feedreader.errors import BadBundle, BadVector, Gap, Torn
from feedreader.libraries import Library
from feedreader.pages import Entry
from feedreader.shelves import Shelf
from tests.cases import RefusalCase
from tests.library_oracle import some_libraries
from tests.objects import ODD_OBJECTS
from tests.shelf_oracle import ADDRESSES, fill
from tests.test_libraries import all_of, library_of
from tests.test_shelves import NO_ADDRESSES, NO_MOMENTS, NO_THINGS

A, B, C, D = ADDRESSES
X, Y = Entry(told="x"), Entry(told="y")
PX = (A, "told", "x")
NO_VECTORS = tuple(value for value in ODD_OBJECTS if value not in ({}, {"a": 1})) + (
    {"a": 0}, {"a": -1}, {"a": True}, {"a": 1.0}, {"a": None}, {"A": 1}, {"": 1}, {"abcdefghi": 1}, {1: 1}, {None: 1}, {("a",): 1},
    {"a": 1, "b": 0}, {"a": "1"}, (("a", 1),), [("a", 1)],
)
READ = ((1, "q"), "read", (PX,), X, ())
GOOD_NOTES = (
    READ, ((1, "q"), "read", (PX,), None, ()), ((2, "q"), "read", (PX,), X, ((1, "a"), (1, "b"))), ((10, "abcdefgh"), "star", (PX,), True, ((9, "z"),)),
    ((2, "q"), "star", (PX,), False, ()), ((2, "q"), "folder", (A,), None, ()), ((2, "q"), "folder", (A, B), "x" * 20, ((1, "q"),)),
    ((2, "q"), "star", ((A, "link", "//g/1"), PX, (A, "words", "H\n"), (A, "words", "H\nt"), (B, "words", "\nt")), True, ()),
    ((2, "q"), "star", ((A, "words", "\n\n"), (A, "words", "\n\n t ")), True, ()), ((1, "q"), "read", (PX,), Y, ()),
    ((2, "q"), "star", ((A, "told", "x" * 40), (A, "words", "x" * 80 + "\n" + "t" * 2000)), True, ()),
)
NO_STAMPS = ODD_OBJECTS + ((0, "q"), (-1, "q"), (True, "q"), (1.0, "q"), (1, ""), (1, "Q"), (1, "q", 1), [1, "q"], (None, "q"), (1, None), ("q", 1))
NO_PARTS = ODD_OBJECTS + (
    (A, "told"), [A, "told", "x"], (A, "told", ""), (A, "told", " x"), (A, "told", "x" * 41), (A, "told", "x\n"), (A, "link", "h"), (A, "link", "x"),
    (A, "words", None), (A, "words", 5), (A, "words", "x"), (A, "words", "\n"), (A, "words", ""), (A, "words", " x\n"), (A, "words", "x\n t"), (A, "words", "x" * 81 + "\n"),
    (A, "words", "\n" + "t" * 2001), (A, "Told", "x"), ("//h", "told", "x"), (None, "told", "x"), (A, None, "x"), (A, "told", None),
    (A, ["told"], "x"), (A, "told", ["x"]), (A, "told", "x", None), A,
)
NO_NOTES = ODD_OBJECTS + tuple((stamp,) + READ[1:] for stamp in NO_STAMPS) + tuple(
    READ[:1] + (kind,) + READ[2:] for kind in ODD_OBJECTS + ("Read", "reads", "told")) + tuple(
    READ[:2] + (subject,) + READ[3:] for subject in ODD_OBJECTS + ([PX], (PX, PX), ((A, "told", "y"), PX), (A,), PX)) + tuple(
    READ[:2] + (subject,) + READ[3:] for part in NO_PARTS for subject in ((part,), (PX, part), (part, PX))) + tuple(
    READ[:3] + (value,) + READ[4:] for value in ODD_OBJECTS + (("told", "x", None), (X,)) if value is not None) + tuple(
    READ[:4] + (over,) for over in ODD_OBJECTS + ([], ((1, "q"),), ((1, "a"),), ((2, "a"),)) if over != ()) + tuple(
    ((5, "q"), "star", (PX,), True, over) for over in (
        [(1, "a")], ((1, "a"), (1, "a")), ((1, "b"), (1, "a")), ((2, "a"), (1, "b")), ((4, "z"), (5, "a")), ((1, "a"), (6, "a")), ((5, "q"),))) + tuple(
    ((5, "q"), "star", (PX,), True, (stamp,)) for stamp in NO_STAMPS) + tuple(
    ((5, "q"), "star", (PX,), value, ()) for value in ODD_OBJECTS + (0, 1, X) if not isinstance(value, bool)) + tuple(
    ((5, "q"), "folder", subject, "f", ()) for subject in ODD_OBJECTS + ([A], (A, A), (B, A), (PX,), (A, PX), ("//h",), (A, None), A)) + tuple(
    ((5, "q"), "folder", (A,), value, ()) for value in ODD_OBJECTS + (" f", "f ", "f\n", "f" * 21, X) if value not in (None, "x")) + (
    READ[:4], READ + ((),), list(READ), READ[1:], (READ,), ((1, "q"), "Read", (PX,), None, ()), ((1, "q"), "folders", (PX,), None, ()),
)


class VectorTest(RefusalCase):
    def test_vectors(self):
        one, other, third = Library("c"), Library("a"), Library("b")
        self.assertEqual(one.vector(), {})
        one.file_feed(A, "f")
        other.take(one)
        other.file_feed(A, "f")
        other.file_feed(A, "g")
        third.take(other)
        self.assertEqual((one.vector(), other.vector(), third.vector()), ({"c": 1}, {"c": 1, "a": 3}, {"c": 1, "a": 3}))
        third.vector()["a"] = 9
        self.assertEqual(third.vector(), {"c": 1, "a": 3})


class BundleTest(RefusalCase):
    def libraries(self):
        """Two libraries, of which the second one has taken a part of the first one."""
        one, other = library_of("a", (A, X, 5), moves=[(A, B)]), library_of("b", (A, Y, 6))
        one.star(PX)
        one.mark_read(PX)
        other.take(one)
        one.file_feed(A, "f")
        one.see(C, ("told", "x", date_of(3)), 9)
        one.see(C, X, 8)
        other.unstar(PX)
        return one, other

    def test_bundle(self):
        one, other = self.libraries()
        vector = {"a": 2, "b": 3, "z": 7}
        self.assertEqual(one.bundle(vector=vector), (
            vector, ((A, X, 5), (C, X, 8), (C, ("told", "x", date_of(3)), 9)), ((A, B),), one.notes[2:]))
        one.take(other)
        notes = one.notes
        self.assertEqual([note[0] for note in notes], [(1, "a"), (2, "a"), (3, "a"), (3, "b")])
        for vector, told in (({}, notes), ({"a": 1}, notes[1:]), ({"a": 3}, notes[3:]), ({"b": 3}, notes[:3]), ({"b": 2}, notes),
                             ({"a": 99, "b": 99}, ()), ({"c": 5}, notes), ({"a": 2, "b": 10 ** 11}, notes[2:3])):
            self.assertEqual(one.bundle(vector), (vector, one.shelf.sightings, one.shelf.moves, told))
        self.assertEqual(Library("z").bundle({}), ({}, (), (), ()))

    def test_bundles_are_new(self):
        one, _ = self.libraries()
        known = all_of(one)
        vector = {"a": 2}
        told = one.bundle(vector)
        vector["a"] = 3
        self.assertEqual(told[0], {"a": 2})
        told[0]["a"] = 9
        self.assertEqual((vector, all_of(one)), ({"a": 3}, known))
        self.assertEqual(one.bundle({"a": 2})[0], {"a": 2})

    def test_wrong_vectors(self):
        one, _ = self.libraries()
        known = all_of(one)
        for vector in NO_VECTORS:
            self.check_refused(BadVector, {"given": vector}, one.bundle, vector)
        self.assertEqual(all_of(one), known)

    def test_take_bundle(self):
        one, other = self.libraries()
        expected = library_of("b")
        expected.take(other)
        expected.take(one)
        bundle = one.bundle(other.vector())
        self.assertIsNone(other.take_bundle(bundle=bundle))
        self.assertEqual(all_of(other), all_of(expected))
        other.take_bundle(bundle)
        self.assertEqual(all_of(other), all_of(expected))
        other.see(D, X, 5)
        other.star(PX)
        self.assertEqual(bundle, one.bundle({"a": 2, "b": 3}))

    def test_no_tuple_of_four(self):
        library = library_of("a", (A, X, 5))
        for value in ODD_OBJECTS + (({}, (), ()), ({}, (), (), (), ()), [{}, (), (), ()], "four", {1: 1, 2: 2, 3: 3, 4: 4}):
            self.check_refused(BadBundle, {"number": None}, library.take_bundle, value)

    def test_the_first_wrong_part(self):
        library = library_of("a", (A, X, 5))
        library.star(PX)
        known = all_of(library)
        wrong = (
            NO_VECTORS,
            tuple(value for value in ODD_OBJECTS if value != ()) + ([], [(A, X, 5)], (A, X, 5)) + tuple((row,) for row in ODD_OBJECTS) + tuple(
                (((A, Y, 5)), row) for row in [(address, X, 5) for address in NO_ADDRESSES] + [(A, thing, 5) for thing in NO_THINGS] + [
                    (A, X, moment) for moment in NO_MOMENTS] + [(A, X), (A, X, 5, 5), [A, X, 5], (X, A, 5)]),
            tuple(value for value in ODD_OBJECTS if value != ()) + ([(A, B)], (A, B), [A, B]) + tuple((row,) for row in ODD_OBJECTS) + tuple(
                ((B, A), row) for row in [(address, A) for address in NO_ADDRESSES] + [(A, address) for address in NO_ADDRESSES] + [
                    (A, A), (A, B, C), [A, B], (A,)]),
            tuple(value for value in ODD_OBJECTS if value != ()) + ([READ], READ) + tuple((note,) for note in NO_NOTES),
        )
        good = ({"q": 9}, ((B, Y, 5),), ((A, B),), (READ,))
        for number, values in enumerate(wrong):
            for value in values:
                bundle = good[:number] + (value,) + good[number + 1:]
                self.check_refused(BadBundle, {"number": number}, library.take_bundle, bundle)
                self.check_refused(BadBundle, {"number": number}, library.take_bundle, bundle[:number + 1] + (None,) * (3 - number))
        self.assertEqual(all_of(library), known)
        self.check_refused(Gap, {"device": "q"}, library.take_bundle, good)

    def test_wrong_notes_behind_good_ones(self):
        library = Library("a")
        for note in NO_NOTES:
            self.check_refused(BadBundle, {"number": 3}, library.take_bundle, ({}, (), (), GOOD_NOTES[3:4] + (note, READ)))
        self.assertEqual(library.notes, ())

    def test_good_notes(self):
        for note in GOOD_NOTES:
            library = Library("a")
            library.take_bundle(({}, (), (), (note,)))
            self.assertEqual(library.notes, (note,))
            self.assertEqual(library.chain(note[0]), (note[0],))
            self.assertEqual((library.conflicts(), library.rows(), library.vector()), ((), (), {note[0][1]: note[0][0]}))

    def test_parts_in_any_order(self):
        library = Library("a")
        notes = (((2, "b"), "star", (PX,), False, ((1, "c"),)), ((1, "b"), "star", (PX,), True, ()), ((1, "b"), "star", (PX,), True, ()))
        rows = ((B, X, 9), (A, ("told", "x", None), 0), (A, X, LAST_MOMENT), (B, X, 8))
        library.take_bundle(({}, rows, ((B, A), (A, C), (B, A)), notes))
        self.assertEqual((library.notes, library.vector()), ((notes[1], notes[0]), {"b": 2}))
        self.assertEqual((library.shelf.sightings, library.shelf.moves), (
            ((A, X, LAST_MOMENT), (A, ("told", "x", None), 0), (B, X, 8)), ((A, C), (B, A))))

    def test_notes_whose_over_is_not_there(self):
        library = library_of("a", (A, X, 5))
        library.take_bundle(({}, (), (), (((7, "q"), "read", (PX,), X, ((1, "z"), (6, "q"))),)))
        self.assertEqual((library.reading_of(PX), library.chain((7, "q")), library.vector()), ("read", ((7, "q"),), {"q": 7}))
        self.assertEqual(library.mark_unread(PX), (8, "a"))
        self.assertEqual((library.notes[-1][4], library.chain((7, "q"))), (((7, "q"),), ((7, "q"), (8, "a"))))

    def test_gap(self):
        library = library_of("b", (A, X, 5))
        for _ in range(3):
            library.star(PX)
        library.take_bundle(({}, (), (), (((4, "m"), "star", (PX,), True, ()),)))
        known = all_of(library)
        rows = ((A, Y, 5),)
        for vector, device in (({"a": 1}, "a"), ({"b": 4}, "b"), ({"m": 5}, "m"), ({"m": 5, "b": 4}, "b"), ({"z": 1, "c": 1, "b": 3}, "c"),
                               ({"m": 4, "n": 1}, "n"), ({"b": 1, "z": 9, "aa": 1}, "aa")):
            # A gap is told ahead of notes that are torn.
            torn = (((1, "b"), "star", (PX,), False, ()),)
            self.check_refused(Gap, {"device": device}, library.take_bundle, (vector, rows, ((A, B),), torn))
        self.assertEqual(all_of(library), known)
        for vector in ({}, {"b": 3}, {"b": 1}, {"m": 4, "b": 3}, {"m": 1}):
            library.take_bundle((vector, (), (), ()))
        self.assertEqual(all_of(library), known)

    def test_torn(self):
        library = library_of("a", (A, X, 5))
        for _ in range(3):
            library.star(PX)
        known = all_of(library)
        for notes, stamp in (
            ((((2, "a"), "star", (PX,), True, ()),), (2, "a")), ((((3, "a"), "read", (PX,), X, ()), ((1, "a"), "star", (PX,), False, ())), (1, "a")),
            ((((1, "b"), "star", (PX,), True, ()), ((1, "b"), "star", (PX,), False, ())), (1, "b")),
            ((((2, "a"), "star", (PX,), True, ()), ((1, "b"), "star", (PX,), True, ()), ((1, "b"), "star", (PX,), False, ())), (1, "b")),
        ):
            self.check_refused(Torn, {"stamp": stamp}, library.take_bundle, ({}, ((A, Y, 5),), ((A, B),), notes))
            self.assertEqual(all_of(library), known)
        library.take_bundle(({}, (), (), library.notes))
        self.assertEqual(all_of(library), known)

    def test_nothing_passed_in_is_changed_or_kept(self):
        library = Library("a")
        bundle = ({}, ((A, X, 5),), ((A, B),), GOOD_NOTES[:1])
        known = copy.deepcopy(bundle)
        library.take_bundle(bundle)
        self.assertEqual(bundle, known)
        told = all_of(library)
        bundle[0]["q"] = 9
        self.assertEqual(all_of(library), told)


class FactsTest(RefusalCase):
    def test_bundles_that_are_lost_late_and_twice(self):
        rng = random.Random(86)
        gaps, taken = 0, 0
        for _ in range(60):
            libraries = [Library(device) for device in "abc"]
            for library, bundle in some_libraries(rng, libraries, 40):
                known = all_of(library)
                try:
                    library.take_bundle(bundle)
                    taken += 1
                except Gap as error:
                    gaps += 1
                    lacking = [device for device, number in bundle[0].items() if library.vector().get(device, 0) < number]
                    self.assertEqual((error.device, all_of(library)), (min(lacking), known))
                self.check_all_earlier(libraries)
            one, other = libraries[:2]
            expected = Library("x")
            expected.take(one, other)
            one.take_bundle(other.bundle(one.vector()))
            self.assertEqual(all_of(one), all_of(expected))
            self.check_all_earlier(libraries)
        self.assertTrue(gaps > 30 and taken > 100, (gaps, taken))

    def check_all_earlier(self, libraries):
        """Checks that a library that has a note of a device has all earlier notes of it."""
        for device, own in zip("abc", libraries):
            made = [note for note in own.notes if note[0][1] == device]
            for library in libraries:
                has = [note for note in library.notes if note[0][1] == device]
                self.assertEqual(has, made[:len(has)])

    def test_a_bundle_is_as_good_as_its_library(self):
        rng = random.Random(861)
        for _ in range(40):
            libraries = [Library(device) for device in "abc"]
            for library, bundle in some_libraries(rng, libraries, 30):
                direct = Library("x")
                direct.take(library)
                other = libraries[0]
                vector = library.vector()
                direct.take(other)
                library.take_bundle(other.bundle(vector))
                self.assertEqual(all_of(library), all_of(direct))

    def test_bundles_of_shelves_alone(self):
        shelf = fill(Shelf(), [(A, X, 5), (B, Y, 6)], [(A, B)])
        library = Library("a")
        library.take_bundle(({}, shelf.sightings, shelf.moves, ()))
        self.assertEqual(library.shelf, shelf)
