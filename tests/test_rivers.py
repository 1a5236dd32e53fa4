"""Rivers: promise [87]."""

import random

from feedreader.dates import LAST_MOMENT, date_of, moment_of
from feedreader.errors import BadAddress, BadNumber, BadQuery
from feedreader.fetchers import Fetcher
from feedreader.libraries import Library
from feedreader.pages import Entry, Page
from feedreader.rivers import river
from feedreader.searches import search
from feedreader.shelves import Shelf
from feedreader.walks import walk
from feedreader.worlds import World, rows_of
from tests import shelf_oracle
from tests.cases import RefusalCase
from tests.library_oracle import some_libraries
from tests.objects import ODD_OBJECTS
from tests.query_oracle import some_query
from tests.shelf_oracle import ADDRESSES, some_thing
from tests.test_libraries import all_of, library_of
from tests.test_presses import NO_ADDRESSES
from tests.test_searches import WRONG, nested

A, B, C, D = ADDRESSES
ALL = ("and",)
R = "//r/all"


def dated(entry, time):
    """An entry with another date at which it changed."""
    return Entry(told=entry.told, link=entry.link, headline=entry.headline, text=entry.text, published=entry.published, changed=date_of(time))


def expected_river(library, query, address, size=4):
    """The pages of a river, told straight from the words of the document."""
    rows = search(library, query)
    entries = [dated(row[0], row[1]) for row in rows]
    signs = {sign for entry in entries for sign in entry.signs}
    shelf = library.shelf
    found = {reason for item in shelf_oracle.items(shelf.sightings, shelf.moves) if item["is_gone"] for reason in item["reasons"]}
    found = sorted((reason for reason in found if reason[:2] not in signs), key=lambda row: (-row[2], row[:2]))
    notices = tuple(reason[:2] + (date_of(reason[2]),) for reason in found)[:60]
    archives = []
    while len(entries) - size * len(archives) > 2 * size:
        end = len(entries) - size * len(archives)
        archives.append(tuple(entries[end - size:end]))
    newest = tuple(entries[:len(entries) - size * len(archives)])
    places = [f"{address}/old/{number}" for number in range(1, len(archives) + 1)]
    pages = [(address, Page(here=address, older=places[-1] if places else None, entries=newest, notices=notices))]
    for number in range(len(archives), 0, -1):
        older = places[number - 2] if number > 1 else None
        pages.append((places[number - 1], Page(here=places[number - 1], older=older, is_archive=True, entries=archives[number - 1])))
    return tuple(pages)


def walk_of(pages, moment, style="rows"):
    """The walk of a world that holds a river from a moment on."""
    return walk(Fetcher(World(rows_of(pages, moment, style=style))), pages[0][0], moment)


class PageTest(RefusalCase):
    def test_an_empty_one(self):
        self.assertEqual(river(library=Library("a"), query=ALL, address=R, size=1), ((R, Page(here=R)),))

    def test_which_versions_stand_where(self):
        for size in range(1, 10):
            for count in (0, 1, size, 2 * size - 1, 2 * size, 2 * size + 1, 3 * size, 3 * size + 1, 4 * size + 1, 59):
                library = library_of("a", *[(A, Entry(told=f"{n:02d}"), 100 - n) for n in range(count)])
                pages = river(library, ALL, R, size=size)
                number = len(pages) - 1
                self.assertEqual(number, max(0, -((2 * size - count) // size)), (size, count))
                tolds = [[entry.told for entry in page.entries] for _, page in pages]
                newest = count - size * number
                self.assertEqual(tolds[0], [f"{n:02d}" for n in range(newest)])
                self.assertEqual(sum(tolds[1:], []), [f"{n:02d}" for n in range(newest, count)])
                self.assertEqual([len(row) for row in tolds[1:]], [size] * number)
                self.assertTrue(newest <= 2 * size and (number == 0 or newest > size))
                if size == 4:
                    self.assertEqual(river(library, ALL, R), pages)

    def test_addresses_and_all_else(self):
        library = library_of("a", *[(A, Entry(told=str(n), headline="H", text="t", link=f"//g/{n}"), 10 + n) for n in range(5)])
        library.see(A, ("told", "gone", None), 5)
        pages = river(library, ALL, R, size=1)
        self.assertEqual([(place, page.here, page.older, page.is_archive, page.headline, page.notices) for place, page in pages], [
            (R, R, R + "/old/3", False, "", ()), (R + "/old/3", R + "/old/3", R + "/old/2", True, "", ()),
            (R + "/old/2", R + "/old/2", R + "/old/1", True, "", ()), (R + "/old/1", R + "/old/1", None, True, "", ())])
        self.assertIsInstance(pages, tuple)
        self.assertEqual(pages[3][1].entries, (Entry(told="0", headline="H", text="t", link="//g/0", changed=date_of(10)),))
        self.assertEqual([entry.told for entry in pages[0][1].entries], ["4", "3"])

    def test_changed(self):
        for entry, sight, time in (
            (Entry(told="x"), 50, 50), (Entry(told="x", changed=date_of(40)), 50, 40), (Entry(told="x", changed=date_of(4000, 60)), 5000, 4000),
            (Entry(told="x", published=date_of(4000, -60)), 5000, 4000), (Entry(told="x", published=date_of(60), changed=date_of(70)), 50, 50),
            (Entry(headline="x", text="y"), LAST_MOMENT, LAST_MOMENT), (Entry(link="//g/"), 0, 0),
        ):
            [(_, page)] = river(library_of("a", (A, entry, sight)), ALL, R)
            self.assertEqual(page.entries, (dated(entry, time),))
            self.assertEqual(page.entries[0].changed[6], 0)

    def test_queries(self):
        library = library_of("a", *[(A, Entry(told=str(n)), 10 + n) for n in range(9)])
        library.star((A, "told", "3"))
        library.star((A, "told", "7"))
        self.assertEqual([[entry.told for entry in page.entries] for _, page in river(library, ("starred",), R, size=1)], [["7", "3"]])
        self.assertEqual([[entry.told for entry in page.entries] for _, page in river(library, ("before", 13), R, size=1)], [["2", "1"], ["0"]])

    def test_notices(self):
        library = library_of(
            "a", (A, Entry(told="a", link="//g/1"), 5), (A, ("told", "a", None), 20), (A, ("link", "//g/1", date_of(30, 60)), 25), (A, ("told", "a", date_of(4)), 40),
            (A, Entry(told="b"), 6), (A, ("told", "b", None), 20), (B, Entry(told="b"), 6), (B, ("told", "b", date_of(20)), 90), (B, ("told", "b", date_of(22)), 21),
            (B, Entry(told="c"), 6), (A, ("told", "c", None), 7), (A, ("told", "none", None), 50), (C, Entry(told="d"), 5), (C, ("told", "d", None), 60))
        [(_, page)] = river(library, ALL, R)
        self.assertEqual([entry.told for entry in page.entries], ["c"])
        self.assertEqual(page.notices, (
            ("told", "d", date_of(60)), ("link", "//g/1", date_of(25)), ("told", "b", date_of(21)), ("told", "a", date_of(20)), ("told", "b", date_of(20))))

    def test_notices_do_not_depend_on_the_query(self):
        library = library_of("a", (A, Entry(told="a"), 5), (A, ("told", "a", None), 20), (B, Entry(told="b"), 5))
        self.assertEqual(river(library, ("or",), R), ((R, Page(here=R, notices=(("told", "a", date_of(20)),))),))

    def test_no_notice_with_a_sign_of_an_entry(self):
        rows = [(A, Entry(told="a", link="//g/1"), 5), (A, ("told", "a", None), 20), (A, ("link", "//g/1", None), 20)]
        for more, expected in (
            ([(B, Entry(told="a"), 5)], ("link",)), ([(B, Entry(link="//g/1"), 5)], ("told",)), ([(B, Entry(told="a", link="//g/1"), 5)], ()),
            ([(B, Entry(told="z"), 5)], ("link", "told")), ([(B, Entry(headline="a"), 5)], ("link", "told")),
        ):
            [(_, page)] = river(library_of("a", *rows, *more), ALL, R)
            self.assertEqual(tuple(notice[0] for notice in page.notices), expected)
            [(_, page)] = river(library_of("a", *rows, *more), ("or",), R)
            self.assertEqual(len(page.notices), 2)
        # Also of one that stands in an archive.
        library = library_of("a", *rows, (B, Entry(told="a"), 5), *[(B, Entry(told=str(n)), 10 + n) for n in range(2)])
        pages = river(library, ALL, R, size=1)
        self.assertEqual(([entry.told for entry in pages[1][1].entries], [notice[0] for notice in pages[0][1].notices]), (["a"], ["link"]))
        # An older version of an item has a sign that its entry in the river has not.
        library = library_of("a", *rows, (B, Entry(told="a"), 5), (B, Entry(told="a", link="//g/2"), 4))
        [(_, page)] = river(library, ALL, R)
        self.assertEqual([notice[0] for notice in page.notices], ["link"])

    def test_the_first_sixty_notices(self):
        rows = [(A, Entry(told=f"{n:02d}"), 5) for n in range(70)] + [(A, ("told", f"{n:02d}", None), 100 + n // 2) for n in range(70)]
        [(_, page)] = river(library_of("a", *rows), ALL, R)
        self.assertEqual([notice[1] for notice in page.notices], sorted((f"{n:02d}" for n in range(70)), key=lambda told: (-(int(told) // 2), told))[:60])
        # What has a sign of an entry does not count among them.
        rows += [(B, Entry(told="69"), 5), (B, Entry(told="68"), 5)]
        [(_, page)] = river(library_of("a", *rows), ALL, R)
        self.assertEqual((len(page.notices), page.notices[0][1], page.notices[-1][1]), (60, "66", "09"))

    def test_what_is_refused(self):
        library = library_of("a", (A, Entry(told="x"), 5))
        known = all_of(library)
        for query in WRONG + (nested(9),):
            self.check_refused(BadQuery, {"path": ()}, river, library, query, R)
            self.check_refused(BadQuery, {"path": ()}, river, library, query, None, size=None)
        self.check_refused(BadQuery, {"path": (2,)}, river, library, ("or", ALL, None), R)
        for address in NO_ADDRESSES:
            self.check_refused(BadAddress, {"given": address}, river, library, ALL, address)
            self.check_refused(BadAddress, {"given": address}, river, library, ALL, address, size=0)
        for size in ODD_OBJECTS + (0, 10, -1, 4.0):
            self.check_refused(BadNumber, {"field": "size"}, river, library, ALL, R, size=size)
        with self.assertRaises(TypeError):
            river(library, ALL, R, 4)
        self.assertEqual(all_of(library), known)

    def test_random_rivers(self):
        rng = random.Random(87)
        archives, notices = 0, 0
        for _ in range(40):
            libraries = [Library(device) for device in "ab"]
            for given, bundle in some_libraries(rng, libraries, 60):
                given.take(*libraries)
            library = libraries[0]
            known = all_of(library)
            for query in (ALL, some_query(rng)):
                size = rng.choice((1, 1, 2, 4))
                pages = river(library, query, R, size=size)
                self.assertEqual(pages, expected_river(library, query, R, size))
                archives += len(pages) - 1
                notices += len(pages[0][1].notices)
            self.assertEqual(all_of(library), known)
        self.assertTrue(archives > 50 and notices > 20, (archives, notices))


class FactsTest(RefusalCase):
    def libraries(self, seed, count):
        """Random libraries."""
        rng = random.Random(seed)
        for _ in range(count):
            library = Library("a")
            for _ in range(rng.randrange(20)):
                library.see(rng.choice(ADDRESSES), some_thing(rng), rng.randrange(60))
            for old, new in shelf_oracle.some_moves(rng):
                library.learn(old, new)
            yield rng, library

    def test_a_shelf_that_walks_a_river(self):
        for rng, library in self.libraries(871, 80):
            pages = river(library, some_query(rng, 2) if rng.random() < 0.5 else ALL, R, size=rng.choice((1, 2)))
            entries = [entry for _, page in pages for entry in page.entries]
            moment = max([moment_of(entry.changed) for entry in entries], default=0) + rng.choice((0, 0, 5))
            told = walk_of(pages, moment, rng.choice(("rows", "nest")))
            self.assertEqual((told.word, told.here, told.remarks), ("whole", R, ()))
            self.assertEqual([(place, page) for place, page, _ in told.pages], list(pages))
            shelf = Shelf()
            shelf.take_walk(told)
            sightings = shelf_oracle.least([(R, entry, 0) for entry in entries])
            expected = [max([row[1] for row in part], key=lambda entry: (moment_of(entry.changed), entry.order))
                        for part in shelf_oracle.classes(sightings, [])]
            self.assertEqual(sorted(item.version.order for item in shelf.all_items()), sorted(entry.order for entry in expected))
            self.assertEqual(shelf.all_items(gone=True), ())

    def test_a_river_of_one_feed(self):
        many = 0
        for rng, library in self.libraries(872, 80):
            address = rng.choice(ADDRESSES)
            size = rng.choice((1, 2, 4))
            pages = river(library, ("feed", address), R, size=size)
            items = [item for item in library.shelf.all_items() if address in item.feed]
            other = Library("b")
            other.take_walk(walk_of(pages, 100))
            told = other.shelf.all_items()
            self.assertEqual([item.version for item in told], [dated(item.version, item.time) for item in items])
            again = river(other, ALL, R, size=size)
            self.assertEqual([page.entries for _, page in again], [page.entries for _, page in pages])
            many += len(items)
        self.assertGreater(many, 100)
