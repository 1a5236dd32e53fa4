"""Walks: promises [55] and [56], and what [52] says of them."""

import random
import unittest

from feedreader.dates import LAST_MOMENT
from feedreader.errors import BadAddress, BadMoment, NoAnswer
from feedreader.fetchers import Fetcher, Replay
from feedreader.nest import write_nest
from feedreader.pages import Entry, Page
from feedreader.presses import Press
from feedreader.rows import write_rows
from feedreader.walks import Walk, walk
from feedreader.worlds import World, rows_of, world_of
from tests.cases import RefusalCase
from tests.objects import ODD_OBJECTS
from tests.press_oracle import do, some_deeds
from tests.test_fetchers import NO_ADDRESSES, NO_MOMENTS, tells

A, B, C, D = "//h/a", "//h/b", "//h/c", "//h/d"
GONE = ("gone",)
DOWN = ("down",)


def page(name, older=None, is_archive=False):
    """A page with one entry."""
    return Page(headline=name, older=older, is_archive=is_archive, entries=(Entry(told=name),))


def plan(*rows, fresh=0):
    """A fetcher of a world: for each pair of an address and a page or behavior from moment 0 on."""
    pages = rows_of(tuple(row for row in rows if isinstance(row[1], Page)), 0, fresh=fresh)
    return Fetcher(World(pages + tuple((address, 0, behavior) for address, behavior in rows if not isinstance(behavior, Page))))


def all_of(told):
    """All that a walk tells."""
    return (told.here, told.pages, told.moves, told.remarks, told.word, told.known)


def names(told):
    """The headlines of the pages that were read."""
    return [headline.headline for _, headline, _ in told.pages]


class WordTest(RefusalCase):
    def check(self, told, word, read, known=(), here=A):
        """Checks a walk: its word, the headlines of its pages, what is known and here."""
        self.assertIsInstance(told, Walk)
        self.assertEqual((told.word, names(told), told.known, told.here), (word, read, known, here))

    def test_whole(self):
        one, two = page("a", B), page("b", C, True)
        fetcher = plan((A, one), (B, two), (C, page("c", is_archive=True)))
        told = walk(fetcher, A, 5)
        self.check(told, "whole", ["a", "b", "c"], (B, C))
        self.assertEqual(told.pages, ((A, one, 5), (B, two, 5), (C, page("c", is_archive=True), 5)))
        self.assertEqual((told.moves, told.remarks), ((), ()))
        self.check(walk(plan((A, page("a", is_archive=True))), A, 5), "whole", ["a"], (A,))
        self.check(walk(plan((A, page("a"))), A, 5), "whole", ["a"])

    def test_parameters_by_name(self):
        told = walk(fetcher=plan((A, page("a", B))), address=A, moment=5, known=(B,))
        self.check(told, "known", ["a"], (B,))

    def test_properties_are_only_read(self):
        for name in ("here", "pages", "moves", "remarks", "word", "known"):
            with self.assertRaises(AttributeError):
                setattr(walk(plan((A, page("a"))), A, 5), name, None)

    def test_known(self):
        rows = ((A, page("a", B)), (B, page("b", C, True)), (C, page("c", None, True)))
        self.check(walk(plan(*rows), A, 5, known=(C,)), "known", ["a", "b"], (B, C))
        self.check(walk(plan(*rows), A, 5, known=(D, C, B, D)), "known", ["a"], (B, C, D))
        # Nobody asks whether the first one is known; what is known is not asked for, also if nothing stands there.
        self.check(walk(plan(*rows), A, 5, known=(A,)), "whole", ["a", "b", "c"], (A, B, C))
        fetcher = plan((A, page("a", D)))
        self.check(walk(fetcher, A, 5, known=(D,)), "known", ["a"], (D,))
        self.assertEqual(fetcher.asks, 1)

    def test_known_is_told_only_at_the_ends(self):
        rows = ((A, page("a", B)), (B, page("b", C, True)))
        self.check(walk(plan(*rows), A, 5, known=(D,)), "gone", ["a", "b"], (D,))
        self.check(walk(plan(*rows, (C, page("c", A, True))), A, 5, known=(D, A)), "known", ["a", "b", "c"], (A, B, C, D))
        self.check(walk(plan(*rows, (C, page("c", A, True))), A, 5, known=(D,)), "ring", ["a", "b", "c"], (D,))
        self.check(walk(plan((A, page("a", A, True))), A, 5), "ring", ["a"])

    def test_known_behind_a_move_is_the_fetched_address(self):
        fetcher = plan((A, page("a", B)), (B, ("moved", C, True)), (C, page("c", None, True)))
        told = walk(fetcher, A, 5)
        self.check(told, "whole", ["a", "c"], (C,))
        self.assertEqual([address for address, _, _ in told.pages], [A, C])
        self.check(walk(fetcher, A, 5, known=told.known), "whole", ["a", "c"], (C,))

    def test_ring(self):
        self.check(walk(plan((A, page("a", A))), A, 5), "ring", ["a"])
        fetcher = plan((A, page("a", B)), (B, page("b", A)))
        self.check(walk(fetcher, A, 5), "ring", ["a", "b"])
        self.assertEqual(fetcher.asks, 2)

    def test_ring_by_the_fetched_address(self):
        fetcher = plan((A, page("a", B)), (B, page("b", C)), (C, ("moved", A, False)))
        self.check(walk(fetcher, A, 5), "ring", ["a", "b"])
        self.assertEqual(fetcher.asks, 4)
        # The first address was handed over, though the page stands elsewhere.
        fetcher = plan((A, ("moved", B, False)), (B, page("b", A)))
        self.check(walk(fetcher, A, 5), "ring", ["b"])
        self.assertEqual(fetcher.asks, 2)
        fetcher = plan((A, ("moved", B, True)), (B, page("b", B)))
        self.check(walk(fetcher, A, 5), "ring", ["b"], here=B)
        self.assertEqual(fetcher.asks, 3)

    def test_ring_comes_ahead_of_bad(self):
        fetcher = plan((A, page("a", B)), (B, ("moved", A, True)))
        self.check(walk(fetcher, A, 5), "ring", ["a"])
        # The text at A is another one, and no page, when it is asked for once more.
        log = ((A, 5, None, ("page", write_rows(page("a", B), A), 0, 0)), (B, 5, None, ("moved", A, False)), (A, 5, 0, ("page", "(", 1, 0)))
        self.check(walk(Fetcher(Replay(log)), A, 5), "ring", ["a"])

    def test_ring_of_a_fetching(self):
        fetcher = plan((A, ("moved", B, True)), (B, ("moved", A, False)))
        told = walk(fetcher, A, 5)
        self.check(told, "ring", [], here=None)
        self.assertEqual(told.moves, ((A, B),))
        fetcher = plan((A, page("a", B)), (B, ("moved", C, False)), (C, ("moved", B, False)))
        self.check(walk(fetcher, A, 5, known=(D,)), "ring", ["a"], (D,))

    def test_words_of_fetchings_without_a_page(self):
        for behavior, word in ((GONE, "gone"), (DOWN, "wait"), (("busy", 7), "wait")):
            self.check(walk(plan((A, behavior)), A, 5), word, [], here=None)
            self.check(walk(plan((A, behavior)), A, 5, known=(B, A)), word, [], (A, B), here=None)
            self.check(walk(plan((A, page("a", B)), (B, page("b", C, True)), (C, behavior)), A, 5), word, ["a", "b"])

    def test_bad(self):
        for text in ("(", "(feed)", '(feed "a"', " \n (x"):
            self.check(walk(plan((A, ("page", text, 0))), A, 5), "bad", [], here=None)
            told = walk(plan((A, page("a", B)), (B, ("page", text, 0))), A, 5)
            self.check(told, "bad", ["a"])

    def test_bad_pages_do_not_count_as_read(self):
        # What stands at B cannot be read, so coming there is no ring, but the walk ends there.
        fetcher = plan((A, ("moved", B, False)), (B, ("page", "(", 0)))
        told = walk(fetcher, A, 5)
        self.check(told, "bad", [], here=None)
        self.assertEqual(told.pages, ())

    def rows_of_pages(self, count, last=None):
        """Pages at //h/0 and so on, each of which leads to the next one."""
        return [(f"//h/{n}", page(str(n), f"//h/{n + 1}" if n < count - 1 else last, True)) for n in range(count)]

    def test_forty_pages(self):
        read = [str(n) for n in range(40)]
        archives = tuple(sorted(f"//h/{n}" for n in range(40)))
        self.check(walk(plan(*self.rows_of_pages(40)), "//h/0", 5), "whole", read, archives, "//h/0")
        fetcher = plan(*self.rows_of_pages(41))
        self.check(walk(fetcher, "//h/0", 5), "long", read, (), "//h/0")
        self.assertEqual(fetcher.asks, 40)
        self.check(walk(plan(*self.rows_of_pages(41)), "//h/0", 5, known=("//h/40",)), "known", read, tuple(sorted((*archives, "//h/40"))), "//h/0")
        self.check(walk(plan(*self.rows_of_pages(40, "//h/3")), "//h/0", 5), "ring", read, (), "//h/0")
        self.check(walk(plan(*self.rows_of_pages(40, "//h/gone")), "//h/0", 5), "long", read, (), "//h/0")
        self.check(walk(plan(*self.rows_of_pages(39, "//h/gone")), "//h/0", 5), "gone", read[:39], (), "//h/0")
        self.check(walk(plan(*self.rows_of_pages(41)), "//h/1", 5), "whole", [str(n) for n in range(1, 41)],
                   tuple(sorted(f"//h/{n}" for n in range(1, 41))), "//h/1")

    def test_words_in_their_order(self):
        self.check(walk(plan((A, page("a", A))), A, 5, known=(A,)), "known", ["a"], (A,))
        self.assertEqual(walk(plan(*self.rows_of_pages(40, "//h/0")), "//h/0", 5, known=("//h/0",)).word, "known")


class PagesTest(RefusalCase):
    def test_here_behind_moves(self):
        for lasting, here in (((True, True), C), ((True, False), B), ((False, True), A), ((False, False), A)):
            fetcher = plan((A, ("moved", B, lasting[0])), (B, ("moved", C, lasting[1])), (C, page("c")))
            told = walk(fetcher, A, 5)
            self.assertEqual((told.here, told.word, told.pages), (here, "whole", ((C, page("c"), 5),)))
            self.assertEqual(told.moves, fetcher.moves)

    def test_moves_ahead_of_an_older_page(self):
        for lasting, moves in (((True, True), ((B, C), (C, D))), ((True, False), ((B, C),)), ((False, True), ((C, D),)), ((False, False), ())):
            fetcher = plan((A, page("a", B)), (B, ("moved", C, lasting[0])), (C, ("moved", D, lasting[1])), (D, page("d", None, True)))
            for moment, asks in ((5, 4), (6, 4 - sum(lasting))):
                known = fetcher.asks
                told = walk(fetcher, A, moment)
                self.assertEqual(all_of(told), (A, ((A, page("a", B), moment), (D, page("d", None, True), moment)), moves, (), "whole", (D,)))
                self.assertEqual(fetcher.asks - known, asks)

    def test_here_is_none_without_pages(self):
        fetcher = plan((A, ("moved", B, True)), (B, GONE))
        told = walk(fetcher, A, 5)
        self.assertEqual(all_of(told), (None, (), ((A, B),), (), "gone", ()))

    def test_moves_are_those_of_the_fetcher_in_the_end(self):
        fetcher = plan((A, page("a", B)), (B, ("moved", C, True)), (C, page("c")), (D, ("moved", A, True)))
        fetcher.fetch(D, 4)
        told = walk(fetcher, A, 5)
        self.assertEqual((told.moves, told.here), (((B, C), (D, A)), A))
        self.assertEqual(walk(fetcher, D, 5).here, A)
        fetcher = plan((A, page("a", B)), (B, ("moved", C, True)), (C, GONE))
        self.assertEqual(walk(fetcher, A, 5).moves, ((B, C),))

    def test_here_behind_moves_of_an_older_page(self):
        # A leads to B only for now when the walk begins; an older page teaches the move of B.
        log = ((A, 5, None, ("moved", B, True)), (B, 5, None, ("page", "feed: b\nolder: c", 0, 0)),
               (C, 5, None, ("moved", B, False)), (B, 5, 0, ("moved", D, True)), (D, 5, None, ("page", "feed: d", 0, 0)))
        told = walk(Fetcher(Replay(log)), A, 5)
        self.assertEqual((told.here, names(told), told.word), (D, ["b", "d"], "whole"))

    def test_moves_that_lead_back_have_an_end(self):
        log = ((A, 5, None, ("moved", B, True)), (B, 5, None, ("page", "feed: b\nolder: c", 0, 0)),
               (C, 5, None, ("moved", B, False)), (B, 5, 0, ("moved", A, True)))
        told = walk(Fetcher(Replay(log)), A, 5)
        self.assertEqual((told.here, names(told), told.word, told.moves), (B, ["b"], "ring", ((A, B), (B, A))))

    def test_the_moments_told(self):
        fetcher = plan((A, page("a", B)), (B, page("b")), fresh=10)
        fetcher.fetch(B, 4)
        self.assertEqual([told for _, _, told in walk(fetcher, A, 9).pages], [9, 4])
        self.assertEqual([told for _, _, told in walk(fetcher, A, 14).pages], [9, 14])
        self.assertEqual([told for _, _, told in walk(fetcher, A, LAST_MOMENT).pages], [LAST_MOMENT, LAST_MOMENT])

    def test_references_lead_from_the_fetched_address(self):
        inner = Page(headline="x", here="//h/z", older="//h/x/q/older", entries=(Entry(link="//h/x/q/one"),))
        for write in (write_rows, write_nest):
            text = write(inner, "//h/x/q/page")
            self.assertNotIn("//", text)
            fetcher = plan((A, ("moved", "//h/x/q/page", False)), ("//h/x/q/page", ("page", text, 0)), ("//h/x/q/older", page("o")))
            told = walk(fetcher, A, 5)
            self.assertEqual(told.pages, (("//h/x/q/page", inner, 5), ("//h/x/q/older", page("o"), 5)))

    def test_remarks(self):
        rows = "feed: a\nolder: b\nauthor: me\n\nentry: x\nlost"
        nest = '(feed "b"\n (older "c") (what)\n  (entry))'
        fetcher = plan((A, ("page", rows, 0)), (B, ("page", nest, 0)), (C, ("page", "lost", 0)))
        told = walk(fetcher, A, 5)
        self.assertEqual(told.remarks, ((A, 3, 1, "unknown"), (A, 6, 1, "lost"), (B, 2, 14, "unknown"), (B, 3, 3, "empty"), (C, 1, 1, "lost")))
        self.assertEqual(told.word, "whole")
        fetcher = plan((A, ("page", rows, 0)), (B, ("moved", A, False)))
        self.assertEqual(walk(fetcher, A, 5).remarks, ((A, 3, 1, "unknown"), (A, 6, 1, "lost")))

    def test_the_fetcher_is_used(self):
        fetcher = plan((A, page("a", B)), (B, page("b")), fresh=3)
        walk(fetcher, A, 5)
        self.assertEqual(fetcher.asks, 2)
        walk(fetcher, A, 7)
        self.assertEqual(fetcher.asks, 2)
        walk(fetcher, A, 8)
        self.assertEqual([question[:3] for question in fetcher.log], [(A, 5, None), (B, 5, None), (A, 8, 0), (B, 8, 0)])


class ErrorTest(RefusalCase):
    def test_wrong_addresses_and_moments(self):
        fetcher = plan((A, page("a", B)), (B, page("b")), fresh=2)
        walk(fetcher, A, 10)
        known = tells(fetcher)
        for address in NO_ADDRESSES:
            for moment in (10, 5, None):
                self.check_refused(BadAddress, {"given": address}, walk, fetcher, address, moment)
        for moment in NO_MOMENTS + (9, 0):
            for address in (A, B, C):
                self.check_refused(BadMoment, {"given": moment}, walk, fetcher, address, moment, known=(A,))
        self.assertEqual(tells(fetcher), known)
        self.assertEqual([row[2] for row in walk(fetcher, A, 10).pages], [10, 10])

    def test_errors_have_the_very_object(self):
        for value in ODD_OBJECTS:
            for call in (plan().fetch, lambda address, moment: walk(plan(), address, moment)):
                with self.assertRaises(BadAddress) as caught:
                    call(value, value)
                self.assertIs(caught.exception.given, value)
                with self.assertRaises(BadMoment) as caught:
                    call(A, value)
                self.assertIs(caught.exception.given, value)

    def test_no_answer(self):
        text = write_rows(page("a", B), A)
        log = ((A, 5, None, ("page", text, 0, 0)), (B, 5, None, ("moved", C, True)))
        fetcher = Fetcher(Replay(log))
        self.check_refused(NoAnswer, {"number": 2}, walk, fetcher, A, 5)
        # The fetching of the first page is done, that of the second one is not.
        self.assertEqual(tells(fetcher), (1, len(text), (), log[:1]))
        self.check_refused(NoAnswer, {"number": 2}, walk, fetcher, B, 5)
        self.check_refused(NoAnswer, {"number": 0}, walk, Fetcher(Replay(())), A, 5)
        self.check_refused(BadMoment, {"given": 4}, walk, fetcher, A, 4)

    def test_no_answer_to_the_first_fetching_leaves_the_fetcher(self):
        fetcher = Fetcher(Replay(((A, 50, None, ("moved", B, True)),)))
        self.check_refused(NoAnswer, {"number": 1}, walk, fetcher, A, 50)
        self.assertEqual(tells(fetcher), (0, 0, (), ()))
        self.check_refused(NoAnswer, {"number": 1}, walk, fetcher, A, 3)


class FactsTest(RefusalCase):
    def presses(self, seed, count):
        """Random presses with their worlds in a format."""
        rng = random.Random(seed)
        for _ in range(count):
            deeds = some_deeds(rng, rng.choice((5, 20, 40)))
            press = do(Press("//h/p0", deeds[0][0], size=rng.choice((1, 2)), headline="P"), deeds)
            yield rng, press

    def check_walk(self, press, told, moment):
        """Checks a whole walk all pages of which were told at its moment."""
        number = len([1 for _, known, _ in told.pages if known.is_archive])
        base = told.pages[0][0]
        addresses = [base] + [f"{base}/old/{n}" for n in range(number, 0, -1)]
        self.assertEqual([row[0] for row in told.pages], addresses)
        self.assertEqual([row[1] for row in told.pages], [press.page_at(address, moment) for address in addresses])
        self.assertIsNone(press.page_at(f"{base}/old/{number + 1}", moment))
        self.assertEqual((told.remarks, told.word), ((), "whole"))

    def test_whole_walks_read_just_the_pages(self):
        for rng, press in self.presses(55, 60):
            world = world_of((press,), style=rng.choice(("rows", "nest")))
            fetcher = Fetcher(world)
            for moment in sorted(rng.choices(range(press.moments[0], press.moments[-1] + 3), k=8)):
                had = [address for address in press.addresses if press.page_at(address, moment) is not None]
                for first in had:
                    told = walk(fetcher, first, moment)
                    self.check_walk(press, told, moment)
                    self.assertEqual(told.here, had[-1])
                    self.assertEqual(all_of(walk(Fetcher(world), first, moment))[1], told.pages)

    def test_archives_that_are_left_out_were_read(self):
        for rng, press in self.presses(56, 60):
            world = world_of((press,), fresh=rng.choice((0, 0, 5)))
            fetcher = Fetcher(world)
            known, read = (), []
            for moment in sorted(rng.choices(range(press.moments[0], press.moments[-1] + 3), k=12)):
                had = [address for address in press.addresses if press.page_at(address, moment) is not None]
                told = walk(fetcher, rng.choice(had), moment, known=known)
                self.assertIn(told.word, ("whole", "known"))
                read += [row[1].entries for row in told.pages if row[1].is_archive]
                if all(row[2] == moment for row in told.pages):
                    base = told.here
                    number = 1
                    while press.page_at(f"{base}/old/{number}", moment) is not None:
                        self.assertIn(press.page_at(f"{base}/old/{number}", moment).entries, read)
                        number += 1
                known = told.known

    def test_a_walk_of_a_replay(self):
        for rng, press in self.presses(57, 20):
            fetcher = Fetcher(world_of((press,), fresh=rng.choice((0, 3))))
            moments = sorted(rng.choices(range(press.moments[0], press.moments[-1] + 3), k=6))
            walks = [all_of(walk(fetcher, press.addresses[0], moment)) for moment in moments]
            other = Fetcher(Replay(fetcher.log))
            self.assertEqual([all_of(walk(other, press.addresses[0], moment)) for moment in moments], walks)
            self.assertEqual(tells(other), tells(fetcher))


if __name__ == "__main__":
    unittest.main()
