"""Plans of asks and pledges: promises [80] and [81]."""

import copy
import itertools
import random

from feedreader.errors import BadOffer, BadWindow
from feedreader.plans import cheapest, lost, shows_cheapest
from tests.cases import RefusalCase
from tests.objects import ODD_OBJECTS

GREAT = 10 ** 12 - 1
OFFERS = ((2, 5), (4, 1), (6, 7), (9, 3))
# The second and the last one are lost.
WINDOWS = ((0, 5), (7, 9), (3, 7), (6, 10), (2, 3), (5, 5))
PLAN, PLEDGES = (2, 4, 9), (0, 0, 1, 3, 5, 0)
NO_WINDOWS = ODD_OBJECTS + (
    (1, 0), (-1, 5), (-2, -1), (0, True), (False, 1), (True, True), (0, 1.0), (0.0, 1), (0, None), (None, 1), ("0", "1"), (0,), (0, 1, 2), [0, 1], ((0, 1),), "01",
)
NO_OFFERS = ODD_OBJECTS + (
    (-1, 1), (5, 0), (5, -1), (5, 1000001), (True, 1), (5, True), (5.0, 1), (5, 1.0), (None, 1), (5, None), (5,), (5, 1, 1), [5, 1], ((5, 1),), "51",
)
NO_TUPLES = tuple(value for value in ODD_OBJECTS if not isinstance(value, tuple)) + ([(1, 2)], [], {(1, 2): 3})


def has(window, moment):
    """Whether a window has an offer at a moment."""
    return window[0] <= moment < window[1]


def least_cost(windows, offers):
    """The least cost of a plan, by going through all of them."""
    live = [window for window in windows if any(has(window, moment) for moment, _ in offers)]
    costs = []
    for chosen in itertools.product((False, True), repeat=len(offers)):
        asked = [offer for offer, is_in in zip(offers, chosen) if is_in]
        if all(any(has(window, moment) for moment, _ in asked) for window in live):
            costs.append(sum(cost for _, cost in asked))
    return min(costs)


def is_plan(windows, offers, plan):
    """Whether a tuple of moments of offers is a plan."""
    live = [window for window in windows if any(has(window, moment) for moment, _ in offers)]
    return list(plan) == sorted(set(plan)) and all(moment in dict(offers) for moment in plan) and all(
        any(has(window, moment) for moment in plan) for window in live)


def are_pledges(windows, offers, pledges):
    """Whether a tuple of integers is one of pledges."""
    if len(pledges) != len(windows) or any(pledge < 0 for pledge in pledges):
        return False
    if any(pledge and not any(has(window, moment) for moment, _ in offers) for window, pledge in zip(windows, pledges)):
        return False
    return all(sum(pledge for window, pledge in zip(windows, pledges) if has(window, moment)) <= cost for moment, cost in offers)


class LostTest(RefusalCase):
    def test_lost(self):
        self.assertEqual(lost(windows=WINDOWS, offers=OFFERS), (1, 5))
        for windows, offers, told in (
            ((), (), ()), ((), OFFERS, ()), (((0, 5), (3, 3)), (), (0, 1)), (((2, 2), (2, 3), (1, 2), (0, 2), (3, 4), (3, 5)), OFFERS, (0, 2, 3, 4)),
            (((10, 20), (9, 10), (0, GREAT), (GREAT, GREAT)), OFFERS, (0, 3)), (((0, 1), (0, 0)), ((0, 1),), (1,)),
        ):
            self.assertEqual(lost(windows, offers), told)


class CheapestTest(RefusalCase):
    def check(self, windows, offers, cost):
        """Checks plan and pledges for windows and offers, and their cost."""
        plan, pledges = cheapest(windows=windows, offers=offers)
        self.assertTrue(is_plan(windows, offers, plan) and are_pledges(windows, offers, pledges), (windows, offers, plan, pledges))
        self.assertEqual((sum(dict(offers)[moment] for moment in plan), sum(pledges)), (cost, cost))
        self.assertTrue(all(type(value) is int for value in plan + pledges) and type(plan) is tuple and type(pledges) is tuple)
        self.assertIs(shows_cheapest(windows=windows, offers=offers, plan=plan, pledges=pledges), True)

    def test_small_ones(self):
        for windows, offers, cost in (
            ((), (), 0), ((), OFFERS, 0), (((0, 9),), (), 0), (((5, 5),) * 3, OFFERS, 0), (((2, 3),), OFFERS, 5), (((0, 10),), OFFERS, 1),
            (WINDOWS, OFFERS, 9), (((0, 5), (0, 5)), OFFERS, 1), (((0, 3), (6, 7)), OFFERS, 12), (((0, 7), (5, 10)), OFFERS, 4),
            (((0, 1),), ((0, 1000000),), 1000000), (((GREAT - 1, GREAT),), ((GREAT - 1, 3),), 3), (((0, GREAT),), ((0, 3), (GREAT, 1)), 3),
        ):
            self.check(windows, offers, cost)

    def test_windows_that_share_offers(self):
        offers = ((1, 3), (2, 4), (3, 3))
        self.check(((1, 3), (2, 4)), offers, 4)
        self.check(((1, 3), (2, 4), (1, 2)), offers, 6)
        self.check(((1, 3), (2, 4), (1, 4)), offers, 4)
        self.check(((1, 3), (2, 4)), ((1, 1), (2, 4), (3, 1)), 2)
        self.check(((1, 3), (2, 4)), ((1, 2), (2, 4), (3, 2)), 4)

    def test_windows_within_another_one(self):
        offers = tuple((moment, 10 - moment) for moment in range(9))
        windows = tuple((begin, 9 - begin) for begin in range(5))
        self.check(windows, offers, 6)
        self.check(windows[::-1], offers, 6)
        self.check(tuple((begin, begin + 1) for begin in range(9)) + ((0, 9),), offers, sum(cost for _, cost in offers))

    def test_costs_far_apart(self):
        offers = tuple((moment, 1 if moment == 4 else 1000000) for moment in range(0, 9))
        self.check(tuple((begin, begin + 5) for begin in range(5)), offers, 1)
        self.check(tuple((begin, begin + 5) for begin in range(6)), offers, 1000001)
        self.check(((0, 2), (0, 9)), offers, 1000000)

    def test_great_moments(self):
        offers = tuple((GREAT - 10 * number, 1000000) for number in range(9, -1, -1))
        self.check(tuple((0, moment + 1) for moment, _ in offers), offers, 1000000)
        self.check(tuple((moment, GREAT) for moment, _ in offers[:-1]), offers, 1000000)
        self.check(tuple((moment, moment + 1) for moment, _ in offers), offers, 10 ** 7)

    def test_many_drawn_ones(self):
        rng = random.Random(81)
        for _ in range(1500):
            offers = tuple((moment, rng.choice((1, 2, 3, rng.randrange(1, 20)))) for moment in sorted(rng.sample(range(12), rng.randrange(8))))
            windows = tuple(tuple(sorted((rng.randrange(13), rng.randrange(13)))) for _ in range(rng.randrange(9)))
            self.check(windows, offers, least_cost(windows, offers))
            self.assertEqual(lost(windows, offers), tuple(
                number for number, window in enumerate(windows) if not any(has(window, moment) for moment, _ in offers)))

    def test_large_ones(self):
        rng = random.Random(810)
        moments = sorted(rng.sample(range(10 ** 11), 2000))
        offers = tuple((moment, rng.randrange(1, 10 ** 6)) for moment in moments)
        begins = [rng.randrange(10 ** 11) for _ in range(2000)]
        for windows in (tuple((begin, begin + rng.randrange(10 ** 9)) for begin in begins), tuple((begin, GREAT) for begin in begins)):
            plan, pledges = cheapest(windows, offers)
            self.assertIs(shows_cheapest(windows, offers, plan, pledges), True)
            self.assertTrue(is_plan(windows, offers, plan))


class ShowTest(RefusalCase):
    def test_good(self):
        self.assertIs(shows_cheapest(WINDOWS, OFFERS, PLAN, PLEDGES), True)
        self.assertIs(shows_cheapest(WINDOWS, OFFERS, PLAN, (1, 0, 0, 3, 5, 0)), False)
        for pledges in ((0, 0, 0, 3, 5, 0), (0, 0, 1, 3, 4, 0), (0, 0, 1, 2, 5, 0), (0, 0, 2, 3, 5, 0), (0, 0, 1, 4, 5, 0)):
            self.assertIs(shows_cheapest(WINDOWS, OFFERS, PLAN, pledges), False)
        # Other plans and pledges of the same cost show it as well.
        for pledges in ((1, 0), (0, 1)):
            self.assertIs(shows_cheapest(((0, 5), (3, 5)), OFFERS, (4,), pledges), True)
        for plan in ((1,), (2,)):
            self.assertIs(shows_cheapest(((1, 3),), ((1, 3), (2, 3)), plan, (3,)), True)
        self.assertIs(shows_cheapest((), (), (), ()), True)
        self.assertIs(shows_cheapest((), OFFERS, (), ()), True)

    def test_a_plan_that_costs_more(self):
        self.assertIs(shows_cheapest(((0, 5),), OFFERS, (2,), (1,)), False)
        self.assertIs(shows_cheapest(((0, 5),), OFFERS, (2, 4), (1,)), False)
        self.assertIs(shows_cheapest((), OFFERS, (2,), ()), False)

    def test_objects_that_are_nearly_plans(self):
        wrong = ODD_OBJECTS + (
            list(PLAN), PLAN[::-1], (2, 2, 4, 9), (2, 4, 4, 9), PLAN + (9,), PLAN[:2], PLAN[1:], (2, 9), (2, 4, 10), (2, 4, 9, 10), (2, 4, "9"), (2, 4, 9.0), (2.0, 4, 9), (2, 4, None),
            (2, 4, [9]), ((2, 5), (4, 1), (9, 3)), (2, 4, (9,)), "249", (3, 4, 9), (2, 4, 6, 9),
        )
        for plan in wrong:
            self.assertIs(shows_cheapest(WINDOWS, OFFERS, plan, PLEDGES), False, plan)
        # True is no moment of an offer, though it equals one.
        self.assertIs(shows_cheapest(((0, 3),), ((1, 5),), (True,), (5,)), False)
        self.assertIs(shows_cheapest(((0, 3),), ((1, 5),), (1,), (5,)), True)

    def test_objects_that_are_nearly_pledges(self):
        wrong = ODD_OBJECTS + (
            list(PLEDGES), PLEDGES[:-1], PLEDGES + (0,), (0, 0, 1, 3, 5), (0, 1, 0, 3, 5, 0), (0, 0, 0, 3, 5, 1), (0, 0, 1, 3, 5, None), (0, 0, 1, 3, 5.0, 0), (0.0, 0, 1, 3, 5, 0),
            (0, 0, True, 3, 5, 0), (False, 0, 1, 3, 5, 0), (0, 0, 1, 3, 5, False), (-1, 0, 1, 3, 6, 0), (1, 0, 1, 3, 4, 0), (0, 0, -1, 5, 5, 0), (0, 0, 1, 3, "5", 0),
            (0, 0, 1, 3, [5], 0), {0: 0, 1: 0, 2: 1, 3: 3, 4: 5, 5: 0}, "001350",
        )
        for pledges in wrong:
            self.assertIs(shows_cheapest(WINDOWS, OFFERS, PLAN, pledges), False, pledges)

    def test_pledges_are_looked_at_for_each_offer(self):
        windows, offers = ((0, 3), (1, 4), (2, 5)), ((0, 9), (1, 9), (2, 2), (3, 9), (4, 9))
        for pledges in ((2, 0, 0), (0, 2, 0), (0, 0, 2), (1, 1, 0), (0, 1, 1)):
            self.assertIs(shows_cheapest(windows, offers, (2,), pledges), True)
        windows, offers = ((0, 2), (1, 4), (3, 5)), ((0, 3), (1, 2), (3, 2), (4, 3))
        for pledges in ((2, 0, 2), (1, 1, 1), (0, 2, 0)):
            plan = (1, 3) if sum(pledges) == 4 else (1,)
            self.assertIs(shows_cheapest(windows, offers, plan, pledges), sum(pledges) == 4)
        self.assertIs(shows_cheapest(windows, offers, (1, 3), (2, 1, 1)), False)
        self.assertIs(shows_cheapest(windows, offers, (1, 3), (1, 2, 1)), False)
        self.assertIs(shows_cheapest(windows, offers, (1, 3), (1, 1, 2)), False)

    def test_drawn_ones(self):
        rng = random.Random(811)
        shown = 0
        for _ in range(7000):
            offers = tuple((moment, rng.randrange(1, 4)) for moment in sorted(rng.sample(range(6), rng.randrange(5))))
            windows = tuple(tuple(sorted((rng.randrange(7), rng.randrange(7)))) for _ in range(rng.randrange(4)))
            plan = tuple(moment for moment, _ in offers if rng.random() < 0.5)
            pledges = tuple(rng.randrange(3) for _ in windows)
            expected = is_plan(windows, offers, plan) and are_pledges(windows, offers, pledges)
            expected = expected and sum(dict(offers)[moment] for moment in plan) == sum(pledges)
            self.assertIs(shows_cheapest(windows, offers, plan, pledges), expected)
            shown += expected and bool(plan)
        self.assertGreater(shown, 60)


class RefusedTest(RefusalCase):
    def calls(self):
        """All three functions, for windows and offers."""
        return (lost, cheapest, lambda windows, offers: shows_cheapest(windows, offers, PLAN, PLEDGES), lambda windows, offers: shows_cheapest(windows, offers, None, None))

    def test_windows(self):
        for call in self.calls():
            for value in NO_TUPLES:
                self.check_refused(BadWindow, {"number": None}, call, value, OFFERS)
                self.check_refused(BadWindow, {"number": None}, call, value, None)
            for value in NO_WINDOWS:
                self.check_refused(BadWindow, {"number": 0}, call, (value, None), OFFERS)
                self.check_refused(BadWindow, {"number": 2}, call, ((0, 0), (5, 9), value, (1, 2), value), None)

    def test_offers(self):
        for call in self.calls():
            for value in NO_TUPLES:
                self.check_refused(BadOffer, {"number": None}, call, WINDOWS, value)
            for value in NO_OFFERS:
                self.check_refused(BadOffer, {"number": 0}, call, WINDOWS, (value, None))
                self.check_refused(BadOffer, {"number": 2}, call, (), ((0, 1), (4, 9), value, (9, 9)))

    def test_offers_out_of_their_order_or_twice(self):
        for call in self.calls():
            for offers, number in ((((4, 1), (2, 1)), 1), (((2, 1), (4, 1), (4, 1)), 2), (((2, 1), (4, 1), (4, 2), (1, 1)), 2), (((5, 1), (0, 1), None), 1)):
                self.check_refused(BadOffer, {"number": number}, call, WINDOWS, offers)

    def test_good_ends(self):
        for call in self.calls():
            call(((0, 0), (0, GREAT), (GREAT, GREAT)), ((0, 1), (1, 1000000), (GREAT, 1)))

    def test_nothing_is_changed(self):
        values = (WINDOWS, OFFERS, PLAN, PLEDGES)
        known = copy.deepcopy(values)
        lost(*values[:2])
        cheapest(*values[:2])
        shows_cheapest(*values)
        self.assertEqual(values, known)
