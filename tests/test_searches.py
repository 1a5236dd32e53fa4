"""Queries and searches: promise [76]."""

import random

from feedreader.dates import LAST_MOMENT
from feedreader.errors import BadQuery
from feedreader.libraries import Library
from feedreader.pages import Entry
from feedreader.searches import is_query, search
from tests import query_oracle
from tests.cases import RefusalCase
from tests.library_oracle import some_libraries
from tests.objects import ODD_OBJECTS
from tests.shelf_oracle import ADDRESSES
from tests.test_libraries import all_of, library_of
from tests.test_shelves import NO_ADDRESSES, NO_MOMENTS

A, B, C, D = ADDRESSES
X, Y, Z = Entry(told="x", headline="One two", text="Three"), Entry(told="y"), Entry(told="z")
STARRED = ("starred",)
GOOD = (
    STARRED, ("word", "a"), ("word", "Zz" * 10), ("reading", "unread"), ("reading", "newer"), ("reading", "read"), ("folder", None), ("folder", "f"),
    ("folder", "x" * 20), ("feed", A), ("since", 0), ("since", LAST_MOMENT), ("before", 0), ("before", LAST_MOMENT), ("and",), ("or",),
    ("not", STARRED), ("and", STARRED), ("or", STARRED, ("and",)), ("not", ("not", ("or",))),
)
WRONG = ODD_OBJECTS + (
    ("word",), ("word", ""), ("word", "a" * 21), ("word", "a1"), ("word", "a b"), ("word", "a-"), ("word", "a\n"), ("word", None), ("word", 5), ("word", "a", "b"),
    ("word", ["a"]), ("word", b"a"), ("reading",), ("reading", "Read"), ("reading", None), ("reading", "unread", 1), ("reading", ["read"]), ("reading", True),
    ("starred", True), ("starred", None), ("Starred",), ["starred"], ("star",), ("folder",), ("folder", ""), ("folder", " f"), ("folder", "f\n"),
    ("folder", "f" * 21), ("folder", "f", "g"), ("folder", 0), ("folder", False), ("feed",), ("feed", A, B), ("feed", (A,)), ("since",), ("since", 5, 6), ("before",),
    ("before", 5, 6), ("before", (5,)), ("not",), ("not", STARRED, STARRED), ["and", STARRED], ["not", STARRED], ("And",), (("and",),), ("nand", STARRED), (None, STARRED),
    ([], STARRED), ("told", "x"), "starred", ("",), (None,), ("xor", STARRED, STARRED), (STARRED,), (STARRED, STARRED), ({},), ("sinc", 5),
) + tuple(("feed", value) for value in NO_ADDRESSES) + tuple((word, value) for word in ("since", "before") for value in NO_MOMENTS)


def nested(levels, inner=STARRED):
    """A query of so many levels."""
    return inner if levels == 1 else ("not", nested(levels - 1, inner))


def library():
    """A library with rows of every kind."""
    whole = library_of("a", (A, X, 10), (B, Y, 20), (D, Z, 30), (C, Entry(told="w"), 5), (C, ("told", "w", None), 6), moves=[(B, C)])
    whole.mark_read((A, "told", "x"))
    whole.star((B, "told", "y"))
    whole.file_feed(C, "f")
    whole.mark_read((D, "told", "z"))
    whole.see(D, Entry(told="z", text="new"), 31)
    return whole


class FormTest(RefusalCase):
    def check_wrong(self, query, path):
        """Checks that something is no query, by its part at a path."""
        self.assertIs(is_query(query), False, query)
        self.check_refused(BadQuery, {"path": path}, search, library(), query)

    def test_good(self):
        for query in GOOD:
            self.assertIs(is_query(value=query), True, query)
            self.assertIs(is_query(("or", query, ("not", query))), True)
            self.assertIsInstance(search(library=library(), query=query), tuple)

    def test_wrong_by_itself(self):
        for query in WRONG:
            self.check_wrong(query, ())
            self.check_wrong(("and", query), (1,))
            self.check_wrong(("or", STARRED, ("not", query)), (2, 1))
            self.check_wrong(("not", ("and", STARRED, ("or",), query, STARRED)), (1, 3))

    def test_the_first_wrong_part(self):
        wrong = ("word", "")
        for query, path in (
            (("and", wrong, wrong), (1,)), (("and", STARRED, wrong, None), (2,)), (("and", ("or", STARRED, wrong), wrong), (1, 2)),
            (("and", ("or", ("not", ("and", STARRED)), STARRED), ("not", wrong), wrong), (2, 1)), (("not", wrong, wrong), ()),
            (("and", ("not", wrong, STARRED), wrong), (1,)), (("and", STARRED, ("not",), wrong), (2,)),
            (("or", ("and", ("not", ("or", STARRED, wrong))), wrong), (1, 1, 1, 2)), (("and", ["or", wrong], wrong), (1,)),
            (("not", ("not", ("not", ("not", ("not", ("not", ("not", None))))))), (1,) * 7),
        ):
            self.check_wrong(query, path)

    def test_levels(self):
        for inner in (STARRED, ("and",)):
            self.assertIs(is_query(nested(8, inner)), True)
            self.check_wrong(nested(9, inner), ())
        self.assertIs(is_query(nested(7, ("and", STARRED))), True)
        self.check_wrong(nested(8, ("or", STARRED)), ())
        self.check_wrong(nested(40), ())
        # Ahead of all else: also where a part is wrong, and of what is no query otherwise.
        self.check_wrong(nested(8, None), (1,) * 7)
        self.check_wrong(nested(9, None), ())
        self.check_wrong(("and", None, nested(8)), ())
        self.check_wrong(("and", None, nested(7)), (1,))
        self.check_wrong(("not", nested(8), STARRED), ())

    def test_parts(self):
        for word in ("and", "or"):
            self.assertIs(is_query((word,) + (STARRED,) * 29), True)
            self.check_wrong((word,) + (STARRED,) * 30, ())
        ten = ("and",) + (STARRED,) * 9
        self.assertIs(is_query(("or", ten, ten, ("and",) + (STARRED,) * 8)), True)
        self.check_wrong(("or", ten, ten, ten), ())
        self.check_wrong(("and", None) + (STARRED,) * 28, (1,))
        self.check_wrong(("and", None) + (STARRED,) * 29, ())
        # Elements of a tuple that is wrong by itself are parts, too.
        self.check_wrong(("or", ("not",) + (STARRED,) * 27), (1,))
        self.check_wrong(("or", ("not",) + (STARRED,) * 29), ())
        self.check_wrong(("or", ("nand",) + (STARRED,) * 29), (1,))
        self.check_wrong(("or", ["and"] + [STARRED] * 29), (1,))
        # What stands behind other words is no part.
        self.check_wrong(("or", ("word", nested(9))), (1,))
        self.check_wrong(("word",) + (STARRED,) * 40, ())

    def test_huge_ones(self):
        doubled = STARRED
        for _ in range(38):
            doubled = ("and", doubled, doubled)
        self.check_wrong(doubled, ())
        self.check_wrong(("or",) + (None,) * 100000, ())
        wide = ("not", ("and",) + (("or",) + (STARRED,) * 1000,) * 1000)
        self.check_wrong(wide, ())


class SearchTest(RefusalCase):
    def found(self, query, given=None):
        """The tolds of the rows that fit a query."""
        return [row[0].told for row in search(given or library(), query)]

    def test_each_sort_of_query(self):
        self.assertEqual([row[0].told for row in library().rows()], ["z", "y", "x"])
        for query, told in (
            (STARRED, "y"), (("reading", "read"), "x"), (("reading", "unread"), "y"), (("reading", "newer"), "z"), (("folder", None), "zx"),
            (("folder", "f"), "y"), (("folder", "g"), ""), (("feed", A), "x"), (("feed", B), "y"), (("feed", C), "y"), (("feed", D), "z"), (("feed", "//h/z"), ""),
            (("since", 10), "zyx"), (("since", 11), "zy"), (("since", 31), "z"), (("since", 32), ""), (("since", 0), "zyx"), (("before", 10), ""),
            (("before", 11), "x"), (("before", 31), "yx"), (("before", 32), "zyx"), (("word", "one"), "x"), (("word", "three"), "x"), (("word", "NEW"), "z"),
            (("and",), "zyx"), (("or",), ""), (("not", STARRED), "zx"), (("not", ("and",)), ""), (("and", ("since", 20), ("before", 31)), "y"),
            (("or", STARRED, ("word", "two")), "yx"), (("and", ("not", STARRED), ("not", ("word", "two")), ("not", ("or",))), "z"),
            (("or", ("and", ("since", 31), ("reading", "newer")), ("and", STARRED, ("folder", "g"))), "z"), (("not", ("not", STARRED)), "y"),
            (("and", STARRED), "y"), (("or", STARRED), "y"), (("and", STARRED, ("or",)), ""), (("or", ("or",), ("and",)), "zyx"),
        ):
            self.assertEqual("".join(self.found(query)), told, query)

    def test_words(self):
        rows = query_oracle.rows_of_words(
            ("One", ""), ("", "one"), ("x1one2", ""), ("", "a\none\nb"), ("one-two", ""), ("(ONE)", "z"), ("oNe", "oNe"), ("", "it's one"), ("~one", ""), ("", "z\n one "),
            ("ones", ""), ("", "someone"), ("on e", ""), ("o", "ne"), ("", "on\ne"), ("on-e", ""), ("0n3", ""), ("", "oneone"))
        given = library_of("a", *[(A, entry, 5) for entry in rows])
        for word in ("one", "ONE", "oNE"):
            found = [row[0] for row in search(given, ("word", word))]
            self.assertEqual(len(found), 10)
            self.assertTrue(all(entry in rows[:10] for entry in found))
        self.assertEqual([row[0].headline for row in search(given, ("word", "ones"))], ["ones"])
        self.assertEqual(len(search(given, ("word", "on"))), 3)
        self.assertEqual(len(search(given, ("word", "s"))), 1)
        long = library_of("a", (A, Entry(headline="a" * 20), 5), (A, Entry(headline="a" * 21), 5), (A, Entry(text="b" * 20 + "1" + "c" * 1979), 5))
        self.assertEqual([row[0].headline for row in search(long, ("word", "A" * 20))], ["a" * 20])
        self.assertEqual((len(search(long, ("word", "b" * 20))), len(search(long, ("word", "c" * 20)))), (1, 0))

    def test_words_are_not_looked_for_elsewhere(self):
        given = library_of("a", (A, Entry(told="one", link="//one/one", headline="two"), 5))
        self.assertEqual(search(given, ("word", "one")), ())

    def test_the_order_of_all_rows(self):
        rows = [(A, Entry(told="a"), 5), (A, Entry(told="b"), 5), (A, Entry(told="c"), 9), (B, Entry(told="b"), 5), (C, Entry(told="b"), 5)]
        given = library_of("a", *rows[::-1])
        self.assertEqual(search(given, ("and",)), given.rows())
        self.assertEqual([(row[1], row[5]) for row in search(given, ("before", 9))], [(5, (A,)), (5, (B,)), (5, (C,)), (5, (A,))])

    def test_the_library_stays(self):
        given = library()
        known = all_of(given)
        for query in GOOD + WRONG:
            try:
                search(given, query)
            except BadQuery:
                pass
        self.assertEqual(all_of(given), known)

    def test_exactly_thirty_parts_and_eight_levels(self):
        parts = tuple(("not", nested(6, ("word", "one"))) for _ in range(3))
        query = ("or",) + parts + (("since", 20),) + (("or",),) * 7
        self.assertEqual(self.found(query), ["z", "y", "x"])
        self.assertEqual(self.found(("and",) + parts), ["x"])
        query = ("not", ("and",) + (("since", 20),) * 28)
        self.assertEqual(self.found(query), ["x"])

    def test_random_queries(self):
        rng = random.Random(76)
        found = 0
        for _ in range(25):
            libraries = [Library(device) for device in "ab"]
            for given, bundle in some_libraries(rng, libraries, 40):
                given.take(*libraries)
            for _ in range(40):
                query = query_oracle.some_query(rng)
                if is_query(query):
                    expected = tuple(row for row in libraries[0].rows() if query_oracle.fits(query, row))
                    self.assertEqual(search(libraries[0], query), expected)
                    found += 0 < len(expected) < len(libraries[0].rows())
        self.assertGreater(found, 200)
