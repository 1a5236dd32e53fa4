"""Watches: promise [77]."""

import random

from feedreader.errors import BadQuery
from feedreader.libraries import Library
from feedreader.pages import Entry
from feedreader.searches import search
from feedreader.watches import Watch
from tests.cases import RefusalCase
from tests.library_oracle import do_something
from tests.query_oracle import some_query
from tests.shelf_oracle import ADDRESSES
from tests.test_libraries import all_of, library_of
from tests.test_searches import WRONG, nested

A, B, C, D = ADDRESSES
ALL = ("and",)


def done(old, left, came):
    """What becomes of a result when rows are taken away and put in, one after the other."""
    rows = list(old)
    for place in left:
        del rows[place]
    for place, row in came:
        rows.insert(place, row)
    return tuple(rows)


def entry(told, text=""):
    """An entry."""
    return Entry(told=told, text=text)


class WatchTest(RefusalCase):
    def test_step(self):
        library = library_of("a", (A, entry("a"), 10), (A, entry("b"), 20), (A, entry("c"), 30), (A, entry("d"), 40))
        watch = Watch(library=library, query=("not", ("reading", "read")))
        self.assertEqual(watch.result, ())
        rows = library.rows()
        self.assertEqual(watch.step(), ((), ((0, rows[0]), (1, rows[1]), (2, rows[2]), (3, rows[3]))))
        self.assertEqual(watch.result, rows)
        self.assertEqual(watch.step(), ((), ()))
        for told in "bd":
            library.mark_read((A, "told", told))
        library.see(A, entry("a", "new"), 15)
        library.see(A, entry("e"), 35)
        self.assertEqual(watch.result, rows)
        new = library.rows()
        self.assertEqual(watch.step(), ((3, 2, 0), ((0, new[1]), (2, new[4]))))
        self.assertEqual([row[0].told for row in watch.result], ["e", "c", "a"])
        self.assertEqual(watch.step(), ((), ()))

    def test_rows_that_change_go_and_come(self):
        library = library_of("a", (A, entry("a"), 10), (B, entry("b"), 20))
        watch = Watch(library, ALL)
        watch.step()
        for change in (
            lambda: library.star((A, "told", "a")), lambda: library.mark_read((A, "told", "a")), lambda: library.file_feed(A, "f"),
            lambda: library.learn(A, C), lambda: library.see(A, entry("a"), 9),
        ):
            change()
            self.assertEqual(watch.step(), ((1,), ((1, library.rows()[1]),)))
        library.mark_read((A, "told", "a"))
        self.assertEqual(watch.step(), ((), ()))
        library.see(A, ("told", "a", None), 9)
        self.assertEqual(watch.step(), ((1,), ()))

    def test_a_row_that_takes_another_place(self):
        library = library_of("a", (A, entry("a"), 10), (A, entry("b"), 20), (A, entry("c"), 30))
        watch = Watch(library, ALL)
        watch.step()
        library.see(A, entry("c"), 5)
        self.assertEqual(watch.step(), ((0,), ((2, library.rows()[2]),)))

    def test_result_is_only_read(self):
        watch = Watch(library_of("a", (A, entry("a"), 10)), ALL)
        with self.assertRaises(AttributeError):
            watch.result = ()
        watch.step()
        self.assertIsInstance(watch.result, tuple)

    def test_the_library_stays(self):
        library = library_of("a", (A, entry("a"), 10))
        known = all_of(library)
        Watch(library, ALL).step()
        self.assertEqual(all_of(library), known)

    def test_several_watches_of_one_library(self):
        library = library_of("a", (A, entry("a"), 10), (A, entry("b"), 20))
        one, other, late = Watch(library, ALL), Watch(library, ("starred",)), Watch(library, ALL)
        one.step()
        self.assertEqual((len(one.result), other.result, late.result), (2, (), ()))
        library.star((A, "told", "a"))
        rows = library.rows()
        self.assertEqual(other.step(), ((), ((0, rows[1]),)))
        self.assertEqual(one.step(), ((1,), ((1, rows[1]),)))
        self.assertEqual(late.step(), ((), ((0, rows[0]), (1, rows[1]))))

    def test_wrong_queries(self):
        library = library_of("a", (A, entry("a"), 10))
        for query in WRONG:
            self.check_refused(BadQuery, {"path": ()}, Watch, library, query)
            self.check_refused(BadQuery, {"path": (2,)}, Watch, library, ("or", ALL, query))
        self.check_refused(BadQuery, {"path": ()}, Watch, library, nested(9))

    def test_steps_in_trials(self):
        library = library_of("a", (A, entry("a"), 10))
        watch = Watch(library, ("starred",))

        def change(given):
            given.star((A, "told", "a"))
            return watch.step()

        came = library.trial(change)
        self.assertEqual((came[0], [row[0].told for _, row in came[1]]), ((), ["a"]))
        self.assertEqual(len(watch.result), 1)
        self.assertEqual(watch.step(), ((0,), ()))
        self.assertEqual(watch.result, ())
        made = []
        library.trial(lambda given: (given.see(A, entry("b"), 5), made.append(Watch(given, ALL)), made[0].step()))
        self.assertEqual(len(made[0].result), 2)
        self.assertEqual(made[0].step(), ((1,), ()))

    def test_old_and_new_results(self):
        rng = random.Random(77)
        steps = 0
        for _ in range(40):
            libraries = [Library(device) for device in "ab"]
            watches = [(library, query, Watch(library, query)) for library in libraries for query in [some_query(rng, 2) for _ in range(3)] + [ALL]]
            for _ in range(25):
                for _ in range(rng.randrange(1, 4)):
                    do_something(rng, libraries)
                if rng.random() < 0.2:
                    libraries[0].take(libraries[1])
                for library, query, watch in rng.sample(watches, 4):
                    old = watch.result
                    left, came = watch.step()
                    self.assertEqual(watch.result, search(library, query))
                    self.assertEqual(done(old, left, came), watch.result)
                    self.assertEqual(list(left), sorted(set(left), reverse=True))
                    self.assertEqual([place for place, _ in came], sorted({place for place, _ in came}))
                    self.assertEqual([old[place] for place in left][::-1], [row for row in old if row not in watch.result])
                    self.assertEqual([row for _, row in came], [row for row in watch.result if row not in old])
                    steps += bool(left) and bool(came)
        self.assertGreater(steps, 100)
