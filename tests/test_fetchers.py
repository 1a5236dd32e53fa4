"""Fetchers, their logs and replays: promises [50], [51] and [52]."""

import random
import unittest

from feedreader.dates import LAST_MOMENT
from feedreader.errors import BadAddress, BadLog, BadMoment, NoAnswer
from feedreader.fetchers import Fetcher, Replay
from feedreader.presses import Press
from feedreader.worlds import World, world_of
from tests.cases import RefusalCase
from tests.objects import ODD_OBJECTS
from tests.press_oracle import do, some_deeds

A, B, C = "//h/a", "//h/b", "//h/c"
GONE = ("gone",)
DOWN = ("down",)
NO_ADDRESSES = ODD_OBJECTS + ("//h", "/a", "//H/")
NO_MOMENTS = ODD_OBJECTS + (-1, LAST_MOMENT + 1)


def page(text, fresh=0):
    """A behavior that is a page."""
    return ("page", text, fresh)


def fetcher_of(*rows):
    """A new fetcher of a world with these rows."""
    return Fetcher(World(rows))


def tells(fetcher):
    """All that a fetcher tells of itself."""
    return (fetcher.asks, fetcher.received, fetcher.moves, fetcher.log)


class FetchCase(RefusalCase):
    def check(self, fetcher, *rows):
        """Checks rows (address, moment, result, how many asks)."""
        for address, moment, result, asks in rows:
            known = fetcher.asks
            self.assertEqual(fetcher.fetch(address, moment), result, (address, moment))
            self.assertEqual(fetcher.asks - known, asks, (address, moment))
            self.assertEqual(len(fetcher.log), fetcher.asks)


class FetcherTest(FetchCase):
    def test_a_new_one(self):
        self.assertEqual(tells(fetcher_of((A, 5, DOWN))), (0, 0, (), ()))
        for name in ("asks", "received", "moves", "log"):
            with self.assertRaises(AttributeError):
                setattr(fetcher_of(), name, 0)

    def test_pages_and_marks(self):
        fetcher = fetcher_of((A, 5, page("one")), (A, 10, page("three")), (A, 20, page("one")), (A, 30, page("")))
        self.check(fetcher, (A, 5, ("page", "one", A, 5), 1), (A, 5, ("page", "one", A, 5), 1), (A, 7, ("page", "one", A, 7), 1),
                   (A, 10, ("page", "three", A, 10), 1), (A, 20, ("page", "one", A, 20), 1), (A, 30, ("page", "", A, 30), 1))
        self.assertEqual(fetcher.received, 3 + 5 + 3)
        self.assertEqual(fetcher.log, (
            (A, 5, None, ("page", "one", 0, 0)), (A, 5, 0, ("same", 0)), (A, 7, 0, ("same", 0)), (A, 10, 0, ("page", "three", 1, 0)),
            (A, 20, 1, ("page", "one", 0, 0)), (A, 30, 0, ("page", "", 2, 0))))

    def test_fresh_pages(self):
        fetcher = fetcher_of((A, 5, page("one", 10)), (A, 18, page("two", 0)), (B, 0, page("b", 3)))
        self.check(fetcher, (A, 5, ("page", "one", A, 5), 1), (A, 14, ("page", "one", A, 5), 0), (A, 15, ("page", "one", A, 15), 1),
                   (B, 16, ("page", "b", B, 16), 1), (B, 18, ("page", "b", B, 16), 0), (B, 19, ("page", "b", B, 19), 1),
                   (A, 24, ("page", "one", A, 15), 0), (A, 25, ("page", "two", A, 25), 1), (A, 25, ("page", "two", A, 25), 1))
        self.assertEqual(fetcher.received, 3 + 1 + 3)

    def test_moves_for_ever(self):
        fetcher = fetcher_of((A, 5, ("moved", B, True)), (A, 50, page("a")), (B, 0, page("b", 5)), (C, 0, ("moved", A, True)))
        self.check(fetcher, (C, 5, ("page", "b", B, 5), 3), (A, 6, ("page", "b", B, 5), 0), (C, 60, ("page", "b", B, 60), 1))
        self.assertEqual(fetcher.moves, ((A, B), (C, A)))
        self.assertEqual([question[0] for question in fetcher.log], [C, A, B, B])

    def test_moves_for_now(self):
        fetcher = fetcher_of((A, 5, page("a", 2)), (A, 8, ("moved", B, False)), (A, 12, page("a", 2)), (B, 0, page("b", 100)))
        self.check(fetcher, (A, 5, ("page", "a", A, 5), 1), (A, 8, ("page", "b", B, 8), 2), (A, 9, ("page", "b", B, 8), 1),
                   (A, 12, ("page", "a", A, 12), 1), (B, 13, ("page", "b", B, 8), 0))
        self.assertEqual((fetcher.moves, fetcher.received), ((), 2))
        self.assertEqual([question[2] for question in fetcher.log], [None, 0, None, 0, 0])

    def test_a_page_is_kept_behind_a_move_for_ever(self):
        fetcher = fetcher_of((A, 5, page("a", 2)), (A, 8, ("moved", B, True)), (B, 8, page("b")))
        self.check(fetcher, (A, 5, ("page", "a", A, 5), 1), (A, 8, ("page", "b", B, 8), 2), (A, 8, ("page", "b", B, 8), 1))
        self.assertEqual([question[:3] for question in fetcher.log], [(A, 5, None), (A, 8, 0), (B, 8, None), (B, 8, 0)])

    def test_known_moves_come_ahead_of_fresh_pages_and_waits(self):
        fetcher = fetcher_of((A, 0, page("a", 100)), (B, 0, ("busy", 50)), (C, 0, ("moved", A, True)), (C, 1, DOWN))
        self.check(fetcher, (C, 0, ("page", "a", A, 0), 2), (C, 1, ("page", "a", A, 0), 0), (B, 1, ("wait", B, 51), 1))

    def test_gone(self):
        fetcher = fetcher_of((A, 5, page("a", 4)), (A, 7, GONE), (A, 20, page("a", 4)))
        self.check(fetcher, (A, 4, ("gone", A), 1), (A, 4, ("gone", A), 1), (A, 5, ("page", "a", A, 5), 1), (A, 8, ("page", "a", A, 5), 0),
                   (A, 9, ("gone", A), 1), (A, 10, ("gone", A), 1), (A, 20, ("page", "a", A, 20), 1))
        self.assertEqual([question[2] for question in fetcher.log], [None, None, None, 0, None, None])
        self.assertEqual(fetcher.received, 2)

    def test_busy(self):
        fetcher = fetcher_of((A, 5, page("a", 1)), (A, 6, ("busy", 10)), (A, 18, page("b", 1)), (B, 0, page("b", 0)))
        self.check(fetcher, (A, 5, ("page", "a", A, 5), 1), (A, 6, ("wait", A, 16), 1), (B, 7, ("page", "b", B, 7), 1),
                   (A, 15, ("wait", A, 16), 0), (A, 16, ("wait", A, 26), 1), (A, 25, ("wait", A, 26), 0), (A, 26, ("page", "b", A, 26), 1))
        self.assertEqual([question[2] for question in fetcher.log], [None, 0, None, 0, 0])

    def test_rows_of_failures(self):
        fetcher = fetcher_of((A, 0, DOWN), (B, 0, DOWN))
        moment = 0
        for pause in (60, 120, 240, 480, 960, 1920, 3840, 3840, 3840):
            self.check(fetcher, (A, moment, ("wait", A, moment + pause), 1), (A, moment + pause - 1, ("wait", A, moment + pause), 0))
            moment += pause
        self.check(fetcher, (B, moment, ("wait", B, moment + 60), 1))

    def test_each_answer_but_down_ends_a_row_of_failures(self):
        for answer, later in ((page("a"), 0), (GONE, 0), (("busy", 7), 7), (("moved", B, False), 0), (page("old"), 0)):
            fetcher = fetcher_of((A, 0, page("old")), (A, 1, DOWN), (A, 181, answer), (A, 182, DOWN), (B, 0, page("b")))
            self.check(fetcher, (A, 0, ("page", "old", A, 0), 1), (A, 1, ("wait", A, 61), 1), (A, 61, ("wait", A, 181), 1))
            fetcher.fetch(A, 181)
            begin = 182 + later
            self.check(fetcher, (A, begin, ("wait", A, begin + 60), 1), (A, begin + 60, ("wait", A, begin + 180), 1))

    def test_what_is_fetched_elsewhere_ends_no_row_of_failures(self):
        fetcher = fetcher_of((A, 0, DOWN), (B, 0, page("b")))
        self.check(fetcher, (A, 0, ("wait", A, 60), 1), (B, 60, ("page", "b", B, 60), 1), (A, 60, ("wait", A, 180), 1))

    def test_a_page_is_kept_through_troubles(self):
        fetcher = fetcher_of((A, 0, page("a")), (A, 1, DOWN), (A, 2, page("a")))
        self.check(fetcher, (A, 0, ("page", "a", A, 0), 1), (A, 1, ("wait", A, 61), 1), (A, 61, ("page", "a", A, 61), 1))
        self.assertEqual(fetcher.log[-1], (A, 61, 0, ("same", 0)))

    def test_waits_may_end_behind_all_moments(self):
        fetcher = fetcher_of((A, 0, DOWN), (B, 0, page("b", 9)))
        self.check(fetcher, (A, LAST_MOMENT, ("wait", A, LAST_MOMENT + 60), 1), (B, LAST_MOMENT, ("page", "b", B, LAST_MOMENT), 1))

    def test_rings(self):
        for lasting in (True, False):
            rows = ((A, 0, ("moved", B, lasting)), (B, 0, ("moved", C, True)), (C, 0, ("moved", B, lasting)))
            fetcher = fetcher_of(*rows)
            self.check(fetcher, (A, 0, ("ring", B), 3), (A, 1, ("ring", B), 0 if lasting else 2), (C, 1, ("ring", C), 0 if lasting else 1))
            self.assertEqual(fetcher.moves, ((A, B), (B, C), (C, B)) if lasting else ((B, C),))

    def test_rows_of_moves(self):
        for lasting in (True, False):
            rows = [(f"//h/{n}", 0, ("moved", f"//h/{n + 1}", lasting)) for n in range(25)] + [("//h/25", 0, page("end"))]
            fetcher = fetcher_of(*rows)
            self.check(fetcher, ("//h/6", 0, ("page", "end", "//h/25", 0), 20), ("//h/6", 0, ("page", "end", "//h/25", 0), 1 if lasting else 20))
            self.check(fetcher, ("//h/5", 0, ("ring", "//h/25"), 1 if lasting else 20))
            fetcher = fetcher_of(*rows)
            self.check(fetcher, ("//h/0", 0, ("ring", "//h/20"), 20), ("//h/0", 0, ("ring", "//h/20"), 0 if lasting else 20))
            self.check(fetcher, ("//h/1", 0, ("ring", "//h/21"), 1 if lasting else 20))

    def test_all_steps_together(self):
        fetcher = fetcher_of((A, 0, ("moved", B, False)), (B, 0, ("moved", C, True)), (C, 0, page("c", 50)), (C, 20, ("busy", 5)),
                             (C, 60, DOWN), (C, 70, GONE))
        self.check(fetcher, (A, 1, ("page", "c", C, 1), 3), (A, 2, ("page", "c", C, 1), 1), (B, 3, ("page", "c", C, 1), 0),
                   (A, 51, ("wait", C, 56), 2), (A, 52, ("wait", C, 56), 1), (C, 56, ("wait", C, 61), 1), (A, 61, ("wait", C, 121), 2),
                   (B, 120, ("wait", C, 121), 0), (B, 121, ("gone", C), 1))
        self.assertEqual(fetcher.log[3:6], ((A, 2, None, ("moved", B, False)), (A, 51, None, ("moved", B, False)), (C, 51, 0, ("busy", 5))))
        self.assertEqual(fetcher.log[-1], (C, 121, 0, GONE))

    def test_wrong_addresses_and_moments(self):
        fetcher = fetcher_of((A, 0, page("a")))
        fetcher.fetch(address=A, moment=10)
        known = tells(fetcher)
        for address in NO_ADDRESSES:
            for moment in (10, 5, None):
                self.check_refused(BadAddress, {"given": address}, fetcher.fetch, address, moment)
        for moment in NO_MOMENTS + (9, 0):
            self.check_refused(BadMoment, {"given": moment}, fetcher.fetch, A, moment)
            self.check_refused(BadMoment, {"given": moment}, fetcher.fetch, B, moment)
        self.assertEqual(tells(fetcher), known)
        self.check(fetcher, (B, 10, ("gone", B), 1))

    def test_every_result_bars_earlier_moments(self):
        for behavior in (page("a", 5), GONE, DOWN, ("busy", 3), ("moved", B, True)):
            fetcher = fetcher_of((A, 0, behavior), (B, 0, ("moved", A, True)))
            for moment in (5, 6):
                fetcher.fetch(A, moment)
                self.check_refused(BadMoment, {"given": moment - 1}, fetcher.fetch, C, moment - 1)


class ReplayTest(FetchCase):
    answers = (("page", "a", 0, 0), ("page", "", 5, 1000000), ("moved", B, True), ("moved", B, False), GONE, ("busy", 1),
               ("busy", 1000000), DOWN)

    def test_each_question_once_in_order(self):
        log = tuple((A, 9 - number, number % 3 or None, answer) for number, answer in enumerate(self.answers))
        log = log + ((A, 5, 0, ("same", 0)), (A, 5, 0, ("same", 0)), (B, 5, 7, ("same", 1000000)))
        replay = Replay(log)
        for number, (address, moment, mark, answer) in enumerate(log):
            for values in ((C, moment, mark), (address, moment + 1, mark), (address, moment, 99), (address, moment, "0"),
                           (None, moment, mark), ([], {}, set()), (address, None, mark), (address, moment, True), (address, float(moment), mark),
                           (address, moment, -1)):
                self.check_refused(NoAnswer, {"number": number}, replay.ask, *values)
            if mark is not None:
                self.check_refused(NoAnswer, {"number": number}, replay.ask, address, moment)
            self.assertEqual(replay.ask(address=address, moment=moment, mark=mark), answer)
        for values in ((B, 5, 7), (A, 9, None), (None, None, None)):
            self.check_refused(NoAnswer, {"number": len(log)}, replay.ask, *values)
        self.assertEqual(Replay(((A, 5, None, GONE),)).ask(A, 5), GONE)
        self.check_refused(NoAnswer, {"number": 0}, Replay(log=()).ask, A, 5)

    def test_truth_values_are_no_integers(self):
        for values in ((A, True, None), (A, 1, True), (A, 1, False)):
            replay = Replay(((A, 1, None, GONE),) if values[2] is None else ((A, 1, int(values[2]), GONE),))
            self.check_refused(NoAnswer, {"number": 0}, replay.ask, *values)

    def test_no_tuple(self):
        for value in (None, [], [(A, 5, None, GONE)], "", {}, 5):
            self.check_refused(BadLog, {"number": None}, Replay, value)

    def test_what_is_no_question(self):
        good = (A, 5, None, GONE)
        answers = ODD_OBJECTS + (
            ("page", "a", 0), ("page", "a", 0, -1), ("page", "a", 0, 1000001), ("page", "a", -1, 0), ("page", "a", None, 0),
            ("page", "a", True, 0), ("page", 5, 0, 0), ("page", "a", 0, True), ("page", "a", 0, 0, 0), ("same",), ("same", 0), ("same", 5),
            ("moved", A, True), ("moved", B, 1), ("moved", "b", True), ("moved", B), ("gone", 0), ("busy", 0), ("busy", 1000001),
            ("busy",), ("down", 1), ["gone"], ("wait", 5), ("page", "a"), "gone",
            ("Page", "a", 0, 0), ("moved", "a", 0, 0), (None, "a", 0, 0),
        )
        wrong = [(A, 5, None, answer) for answer in answers] + [(A, 5, 0, ("same", value)) for value in (-1, 1000001, None, True)]
        wrong += [(A, 5, 0, ("same",)), (A, 5, 0, ("same", 0, 0)), (A, 5, 0, ["same", 0])]
        wrong += [(address, 5, None, GONE) for address in NO_ADDRESSES] + [(A, moment, None, GONE) for moment in NO_MOMENTS]
        wrong += [(A, 5, mark, GONE) for mark in (-1, True, False, "0", 0.0, (), [])] + list(ODD_OBJECTS)
        wrong += [(A, 5, None), (A, 5, None, GONE, 0), [A, 5, None, GONE], (A, 5, GONE)]
        for question in wrong:
            self.check_refused(BadLog, {"number": 0}, Replay, (question, None))
            self.check_refused(BadLog, {"number": 2}, Replay, (good, (B, 4, 0, ("same", 0)), question))

    def test_a_fetching_without_an_answer_leaves_the_fetcher(self):
        log = ((A, 5, None, ("page", "a", 0, 9)), (B, 6, None, ("moved", C, True)), (C, 6, None, ("moved", "//h/d", False)), (A, 20, 0, DOWN),
               (B, 20, None, DOWN))
        replay = Replay(log)
        fetcher = Fetcher(replay)
        fetcher.fetch(A, 5)
        known = tells(fetcher)
        self.check_refused(NoAnswer, {"number": 3}, fetcher.fetch, B, 6)
        self.assertEqual(tells(fetcher), known)
        self.check_refused(NoAnswer, {"number": 3}, fetcher.fetch, C, 50)
        self.assertEqual(tells(fetcher), known)
        self.check(fetcher, (A, 13, ("page", "a", A, 5), 0), (A, 20, ("wait", A, 80), 1))
        self.check(fetcher, (B, 20, ("wait", B, 80), 1))
        self.assertEqual((fetcher.moves, fetcher.asks, fetcher.received), ((), 3, 1))
        self.check_refused(NoAnswer, {"number": 5}, replay.ask, A, 5)

    def test_a_failing_fetching_ends_no_row_of_failures(self):
        fetcher = Fetcher(Replay(((A, 0, None, DOWN), (A, 60, None, ("moved", B, True)), (A, 61, None, DOWN))))
        fetcher.fetch(A, 0)
        self.check_refused(NoAnswer, {"number": 2}, fetcher.fetch, A, 60)
        self.check(fetcher, (A, 61, ("wait", A, 181), 1))


class FactsTest(FetchCase):
    def worlds(self, seed, count):
        """Random worlds of presses, with troubles, their addresses and moments."""
        rng = random.Random(seed)
        for _ in range(count):
            deeds = some_deeds(rng, 15, links=False)
            press = do(Press("//h/p0", deeds[0][0], size=1), deeds)
            addresses = press.page_addresses() + ["//h/none"]
            begin, end = press.moments[0] - 2, press.moments[-1] + 200
            fresh = rng.choice((0, 0, 30))
            troubles = []
            for address in rng.sample(addresses, min(3, len(addresses))) * rng.choice((0, 1)):
                low = rng.randrange(begin, end)
                laid = (address, low, low + rng.choice((1, 100)), rng.choice((DOWN, ("busy", 40))))
                if all(press.page_at(address, moment) is None or not isinstance(press.page_at(address, moment), tuple)
                       for moment in range(laid[1], laid[2])):
                    troubles.append(laid)
            world = world_of((press,), fresh=fresh, troubles=tuple(troubles))
            moments = sorted(rng.choices(range(begin, end), k=30))
            yield world, [(rng.choice(addresses), moment) for moment in moments], fresh, bool(troubles)

    def test_sparing(self):
        for world, fetchings, fresh, troubled in self.worlds(16, 80):
            fetcher = Fetcher(world)
            for address, moment in fetchings:
                asks, received = fetcher.asks, fetcher.received
                told = fetcher.fetch(address, moment)
                new = Fetcher(world)
                result = new.fetch(address, moment)
                self.assertLessEqual(fetcher.asks - asks, new.asks)
                self.assertLessEqual(fetcher.received - received, new.received)
                if told[0] == "page":
                    self.assertEqual(world.plain(told[2], told[3])[1], told[1])
                if fresh == 0 and not troubled:
                    self.assertEqual(told, result)

    def test_replays(self):
        for world, fetchings, _, _ in self.worlds(17, 80):
            fetcher = Fetcher(world)
            results = [fetcher.fetch(address, moment) for address, moment in fetchings]
            replay = Replay(fetcher.log)
            other = Fetcher(replay)
            self.assertEqual([other.fetch(address, moment) for address, moment in fetchings], results)
            self.assertEqual(tells(other), tells(fetcher))
            self.check_refused(NoAnswer, {"number": fetcher.asks}, replay.ask, A, 5)


if __name__ == "__main__":
    unittest.main()
