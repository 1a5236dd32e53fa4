"""Worlds: promises [45] and [46]."""

import random
import unittest

from feedreader.dates import LAST_MOMENT
from feedreader.errors import BadAddress, BadMoment, BadTrouble, BadWorld, Taken
from feedreader.formats import read_feed
from feedreader.nest import write_nest
from feedreader.pages import Page
from feedreader.presses import Press
from feedreader.rows import write_rows
from feedreader.worlds import World, rows_of, world_of
from tests.cases import RefusalCase
from tests.objects import ODD_OBJECTS
from tests.press_oracle import do, some_deeds, told_at
from tests.samples import FULL, some_pages

A, B = "//h/a", "//h/b"
GONE = ("gone",)
DOWN = ("down",)
BEHAVIORS = (
    ("page", "", 0), ("page", "any\n text", 1000000), ("moved", B, True), ("moved", B, False), GONE, ("busy", 1),
    ("busy", 1000000), DOWN,
)
NO_TROUBLES = (
    ("busy", 0), ("busy", 1000001), ("busy", True), ("busy",), ("busy", 1, 1), ("busy", "1"), ("busy", None), "down", ["down"],
    ("down", 1), ("Down",), "busy", (), (None,), (1,), None, 0, {"down": 1}, (DOWN,), (["down"],),
)
NO_BEHAVIORS = NO_TROUBLES + ODD_OBJECTS + (
    ("page", "a"), ("page", "a", -1), ("page", "a", 1000001), ("page", "a", True), ("page", None, 0), ("page", b"a", 0),
    ("page", "a", 0, 0), ("page", "a", None), ["page", "a", 0], ("moved", A, True), ("moved", B, 1), ("moved", B, None),
    ("moved", B), ("moved", "//h", True), ("moved", None, True), ("moved", B, True, 1), ("gone", 1), ("Gone",), "gone", ["gone"],
    ("same", 0), ("page", "a", 0, 5), ("wait", 5), ("Moved", B, True), ("page", B, True), ("Page", "a", 0), ("moved", "a", 0),
)
NO_ADDRESSES = ODD_OBJECTS + ("//h", "/a", "//H/")
NO_MOMENTS = ODD_OBJECTS + (-1, LAST_MOMENT + 1)


class PlanTest(RefusalCase):
    def test_every_behavior(self):
        for behavior in BEHAVIORS:
            world = World(((A, 5, behavior),))
            for moment, told in ((0, GONE), (4, GONE), (5, behavior), (6, behavior), (LAST_MOMENT, behavior)):
                self.assertEqual(world.plain(A, moment), told)
                answer = ("page", told[1], 0, told[2]) if told[0] == "page" else told
                self.assertEqual(world.ask(A, moment), answer)
                self.assertEqual(world.ask(B, moment), GONE)
                self.assertEqual(world.plain(B, moment), GONE)

    def test_rows_are_in_force_until_the_next_one(self):
        rng = random.Random(12)
        for _ in range(200):
            rows = {}
            for address in (A, "//h/c", "//h/d"):
                moments = sorted(rng.sample(range(30), rng.choice((0, 1, 2, 5, 20))))
                rows[address] = [(address, moment, rng.choice(BEHAVIORS)) for moment in moments]
            order = [address for address in rows for _ in rows[address]]
            rng.shuffle(order)
            left = {address: list(rows[address]) for address in rows}
            world = World(tuple(left[address].pop(0) for address in order))
            for address in rows:
                for moment in range(31):
                    told = [row[2] for row in rows[address] if row[1] <= moment]
                    self.assertEqual(world.plain(address, moment), told[-1] if told else GONE)

    def test_marks(self):
        texts = ("x", "y", "x", "z", "y", "w", "x")
        marks = (0, 1, 0, 2, 1, 3, 0)
        rows = [(A, 10 * n, ("page", text, n)) for n, text in enumerate(texts)]
        rows = rows[:2] + [(A, 15, GONE), (B, 16, ("page", "y", 3)), (A, 17, ("moved", B, False))] + rows[2:]
        world = World(tuple(rows))
        for number, (text, mark) in enumerate(zip(texts, marks)):
            moment = 10 * number
            self.assertEqual(world.ask(A, moment), ("page", text, mark, number))
            for told in list(range(5)) + [None, True, False, "0", 0.0, (), -1, [0]]:
                same = told == mark and type(told) is int
                answer = ("same", number) if same else ("page", text, mark, number)
                self.assertEqual(world.ask(address=A, moment=moment, mark=told), answer)
        self.assertEqual(world.ask(B, 20), ("page", "y", 0, 3))
        self.assertEqual(world.ask(A, 15, 1), GONE)
        self.assertEqual(world.ask(A, 17, 1), ("moved", B, False))

    def test_no_tuple(self):
        for value in (None, [], [(A, 5, GONE)], "", {}, 5, set()):
            self.check_refused(BadWorld, {"number": None}, World, value)
        self.assertEqual(World(rows=()).plain(A, 5), GONE)

    def test_what_is_no_row(self):
        good = (B, 5, GONE)
        wrong = [(A, 5, behavior) for behavior in NO_BEHAVIORS] + [(address, 5, GONE) for address in NO_ADDRESSES]
        wrong += [(A, moment, GONE) for moment in NO_MOMENTS] + list(ODD_OBJECTS) + [
            (A, 5), (A, 5, GONE, GONE), [A, 5, GONE], (5, A, GONE)]
        for row in wrong:
            self.check_refused(BadWorld, {"number": 0}, World, (row, None))
            self.check_refused(BadWorld, {"number": 2}, World, (good, (B, 6, DOWN), row, good))

    def test_rows_of_an_address_rise(self):
        for moment in (4, 5):
            self.check_refused(BadWorld, {"number": 1}, World, ((A, 5, GONE), (A, moment, DOWN)))
            self.check_refused(BadWorld, {"number": 3}, World, ((A, 1, GONE), (A, 5, GONE), (B, 9, GONE), (A, moment, GONE), None))
        world = World(((A, 5, DOWN), (B, 4, DOWN), (A, 6, GONE), (B, 5, GONE)))
        self.assertEqual([world.plain(A, 5), world.plain(B, 4), world.plain(B, 5)], [DOWN, DOWN, GONE])

    def test_questions_that_are_none(self):
        world = World(((A, 5, GONE),))
        for call in (world.plain, world.ask):
            for address in NO_ADDRESSES:
                self.check_refused(BadAddress, {"given": address}, call, address, 5)
                self.check_refused(BadAddress, {"given": address}, call, address, None)
            for moment in NO_MOMENTS:
                self.check_refused(BadMoment, {"given": moment}, call, A, moment)


class RowsOfTest(RefusalCase):
    def test_rows(self):
        pages = tuple(zip((A, B, "//g/", A), [FULL, Page()] + some_pages(13, 2)))
        for style, write in (("rows", write_rows), ("nest", write_nest)):
            rows = rows_of(pages, 7, style=style, fresh=3)
            self.assertEqual(rows, tuple((address, 7, ("page", write(page, address), 3)) for address, page in pages))
        self.assertEqual(rows_of(pages=pages, moment=7), rows_of(pages, 7, style="rows", fresh=0))
        self.assertEqual(rows_of((), 7), ())
        world = World(rows_of(pages[:3], 7, style="nest"))
        for address, page in pages[:3]:
            self.assertEqual(read_feed(world.plain(address, 8)[1], address), (page, ()))


class WorldOfTest(RefusalCase):
    def presses(self):
        one, other = Press(A, 1000, size=1), Press(B, 1002, headline="Other")
        for number in range(4):
            one.put(1001 + number, f"t{number}")
        one.move(1005, "//h/c")
        return (one, other)

    def test_pages_at_all_moments(self):
        rng = random.Random(14)
        for number in range(30):
            told = []
            for place in range(rng.choice((1, 2, 3))):
                deeds = some_deeds(rng, 20, first=f"//h/p{place}")
                told.append((deeds, do(Press(f"//h/p{place}", deeds[0][0], size=2, headline="N"), deeds)))
            for style, write in (("rows", write_rows), ("nest", write_nest)):
                world = world_of(tuple(press for _, press in told), style=style, fresh=9)
                for deeds, press in told:
                    addresses = list(told_at(deeds, LAST_MOMENT, 2)[0]) + ["//h/p0/old/99"]
                    for moment in sorted({m + d for m in press.moments for d in (-1, 0, 1)}):
                        stands = told_at(deeds, moment, 2, "N")[0]
                        for address in addresses:
                            found = stands.get(address, GONE)
                            if isinstance(found, Page):
                                found = ("page", write(found, address), 9)
                            elif found != GONE:
                                found = found + (True,)
                            self.assertEqual(world.plain(address, moment), found)

    def test_defaults(self):
        press = self.presses()[0]
        world = world_of(presses=(press,))
        self.assertEqual(world.plain(A, 1003), ("page", write_rows(press.page_at(A, 1003), A), 0))
        self.assertEqual(world_of(()).plain(A, 5), GONE)

    def test_marks_of_texts_that_come_again(self):
        press = Press(A, 10)
        for moment in (20, 40):
            press.put(moment, "x")
            press.withdraw(moment + 10, "x")
        world = world_of((press,))
        self.assertEqual([world.ask(A, moment)[2] for moment in (10, 15, 20, 30, 40, 50)], [0, 0, 1, 2, 3, 4])
        press = Press(A, 10, size=1)
        for told in "xyz":
            press.put(20, told)
        press.move(30, B)
        world = world_of((press,), troubles=((A, 15, 25, DOWN),))
        self.assertEqual([world.ask(A, moment) for moment in (15, 24)], [DOWN, DOWN])
        self.assertEqual([world.ask(A, moment)[2] for moment in (14, 25, 29)], [0, 1, 1])

    def test_texts_that_a_trouble_hides_have_no_mark(self):
        press = Press(A, 10)
        press.put(20, "x")
        press.put(30, "y")
        self.assertEqual(world_of((press,)).ask(A, 30)[2], 2)
        self.assertEqual(world_of((press,), troubles=((A, 20, 30, DOWN),)).ask(A, 30)[2], 1)

    def test_a_world_does_not_change_with_its_presses(self):
        one, other = self.presses()
        world = world_of((one, other))
        known = world.plain("//h/c", 2000)
        one.put(2000, "new")
        one.move(2001, "//h/d")
        self.assertEqual(world.plain("//h/c", 2000), known)
        self.assertEqual(world.plain("//h/d", 2001), GONE)

    def test_taken(self):
        one, other = self.presses()
        third = Press("//h/x", 5)
        third.move(6, "//h/c")
        third.move(7, A)
        self.check_refused(Taken, {"given": "//h/c"}, world_of, (one, other, third))
        self.check_refused(Taken, {"given": A}, world_of, (third, other, one))
        self.check_refused(Taken, {"given": A}, world_of, (one, one), troubles=None)
        self.check_refused(Taken, {"given": B}, world_of, (other, third, other, one))

    def test_troubles(self):
        one, other = self.presses()
        plain = world_of((one, other))
        troubles = ((A, 1002, 1004, DOWN), (B, 900, 1010, ("busy", 5)), (A, 1004, 1005, ("busy", 7)), ("//g/", 5, 9, DOWN),
                    ("//h/c", 1000, 1001, DOWN), (A, 990, 1000, DOWN), ("//h/c", 1007, LAST_MOMENT, DOWN),
                    ("//h/a/old/1", 1003, 1005, DOWN), ("//g/", 0, 5, ("busy", 1000000)))
        world = world_of((one, other), troubles=troubles)
        addresses = {trouble[0] for trouble in troubles}
        for address in addresses | {"//h/c/old/1"}:
            for moment in list(range(12)) + list(range(895, 1020)) + [LAST_MOMENT - 1, LAST_MOMENT]:
                laid = [told for place, begin, end, told in troubles if place == address and begin <= moment < end]
                self.assertEqual(world.plain(address, moment), laid[0] if laid else plain.plain(address, moment), (address, moment))

    def test_random_troubles(self):
        rng = random.Random(15)
        for number in range(60):
            one, other = self.presses()
            plain = world_of((one, other), style="nest", fresh=1)
            troubles = []
            for _ in range(12):
                begin, end = sorted(rng.sample(range(995, 1012), 2))
                trouble = (rng.choice((A, B, "//h/c", "//h/c/old/1", "//g/")), begin, end, rng.choice((DOWN, ("busy", 4))))
                try:
                    world = world_of((one, other), style="nest", fresh=1, troubles=tuple(troubles) + (trouble,))
                except BadTrouble as error:
                    self.assertEqual(error.number, len(troubles))
                    moved = [plain.plain(trouble[0], moment)[0] == "moved" for moment in range(begin, end)]
                    others = [moment for place, low, high, _ in troubles for moment in range(low, high) if place == trouble[0]]
                    self.assertTrue(any(moved) or set(others) & set(range(begin, end)))
                else:
                    troubles.append(trouble)
                    for address in (A, B, "//h/c", "//h/c/old/1", "//h/a/old/1", "//g/"):
                        for moment in range(994, 1013):
                            laid = [told for place, low, high, told in troubles if place == address and low <= moment < high]
                            self.assertEqual(world.plain(address, moment), laid[0] if laid else plain.plain(address, moment))

    def test_wrong_troubles(self):
        presses = self.presses()
        good = (B, 1000, 1010, DOWN)
        for value in (None, [], [good], "", {}, 5):
            self.check_refused(BadTrouble, {"number": None}, world_of, presses, troubles=value)
        wrong = [(B, 5, 9, behavior) for behavior in NO_TROUBLES + (GONE, ("page", "a", 0), ("moved", A, True), ("moved", A, False))]
        wrong += [(address, 5, 9, DOWN) for address in NO_ADDRESSES] + list(ODD_OBJECTS)
        wrong += [(B, moment, 9, DOWN) for moment in NO_MOMENTS] + [(B, 5, moment, DOWN) for moment in NO_MOMENTS]
        wrong += [(B, 5, 5, DOWN), (B, 6, 5, DOWN), (B, 5, 9), (B, 5, 9, DOWN, 0), [B, 5, 9, DOWN]]
        wrong += [(B, 1009, 1020, DOWN), (B, 990, 1001, DOWN), (B, 1002, 1003, DOWN), (B, 900, 1100, DOWN), good]
        wrong += [(A, 1000, 1006, DOWN), (A, 1005, 1006, DOWN), (A, 2000, 3000, ("busy", 1)), ("//h/a/old/1", 1005, 1006, DOWN)]
        for trouble in wrong:
            self.check_refused(BadTrouble, {"number": 1}, world_of, presses, troubles=(good, trouble, None))
            self.check_refused(BadTrouble, {"number": 2}, world_of, presses, troubles=(good, (A, 5, 9, DOWN), trouble))
        world_of(presses, troubles=(good, (B, 1010, 1011, DOWN), (B, 999, 1000, DOWN), (A, 1000, 1005, DOWN)))


if __name__ == "__main__":
    unittest.main()
