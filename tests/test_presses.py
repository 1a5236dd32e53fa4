"""Presses and their windows: promises [40], [41], [42], [43] and, for windows, [80]."""

import random
import unittest

from feedreader.dates import LAST_MOMENT, date_of, moment_of
from feedreader.errors import (
    BadAddress, BadDate, BadEntry, BadMoment, BadNumber, BadPage, BadZone, NoEntry, Taken, TooMany,
)
from feedreader.pages import Page
from feedreader.presses import Press
from tests.cases import RefusalCase
from tests.objects import ODD_OBJECTS
from tests.press_oracle import do, some_deeds, told_at

NO_MOMENTS = tuple(value for value in ODD_OBJECTS) + (-1, LAST_MOMENT + 1)
NO_ADDRESSES = ODD_OBJECTS + (
    "//h/", "//h", "//h/a/", "//h/old", "//h/old/a", "//h/a/old", "//h/a/old/b", "//H/a", "//h//", "//h/a b",
    "//h/" + "/".join(["a" * 20] * 5), "//h" + "/a" * 49,
)
ADDRESSES = ("//h/a", "//old/a", "//h/Old", "//h/olds/1", "//h//a", "//h/a.old", "//h" + "/a" * 48 + "b", "//hh" + "/a" * 48)
SMALL = 1000


def tells(press, moments=range(SMALL - 2, SMALL + 8)):
    """All that a press tells."""
    addresses = [base + tail for base in ("//h/a", "//h/b", "//h/c") for tail in ("", "/old/1", "/old/2")]
    rows = [[press.page_at(address, moment) for address in addresses] for moment in moments]
    entries = [press.entries_at(moment) for moment in moments]
    return (rows, entries, press.moments, press.addresses, press.address, press.headline, press.windows(SMALL + 50))


class MakeTest(RefusalCase):
    def test_addresses(self):
        for address in ADDRESSES:
            press = Press(address, 5)
            self.assertEqual((press.address, press.addresses, press.moments), (address, (address,), (5,)))
            self.assertEqual(press.page_at(address, 5), Page(here=address))
        self.assertEqual([len(address) for address in ADDRESSES[-2:]], [100, 100])
        for address in NO_ADDRESSES:
            self.check_refused(BadAddress, {"given": address}, Press, address, 5)
            self.check_refused(BadAddress, {"given": address}, Press, address, None, size=None, headline=None)

    def test_moments(self):
        for moment in (0, 5, LAST_MOMENT):
            self.assertEqual(Press("//h/a", moment).moments, (moment,))
        for moment in NO_MOMENTS:
            self.check_refused(BadMoment, {"given": moment}, Press, "//h/a", moment)
            self.check_refused(BadMoment, {"given": moment}, Press, "//h/a", moment, size=0, headline=None)

    def test_sizes(self):
        for size in range(1, 10):
            Press("//h/a", 5, size=size)
        for size in ODD_OBJECTS + (0, 10, -1, 4.0):
            self.check_refused(BadNumber, {"field": "size"}, Press, "//h/a", 5, size=size)
            self.check_refused(BadNumber, {"field": "size"}, Press, "//h/a", 5, size=size, headline=None)

    def test_headlines(self):
        press = Press(address="//h/a", moment=5, headline="x" * 80)
        self.assertEqual((press.headline, press.page_at("//h/a", 5).headline), ("x" * 80, "x" * 80))
        self.assertEqual(Press("//h/a", 5).headline, "")
        for headline in (None, 5, " a", "a ", "a\nb", "x" * 81, b"a", ["a"]):
            self.check_refused(BadPage, {"field": "headline", "number": None}, Press, "//h/a", 5, headline=headline)

    def test_properties_are_only_read(self):
        press = Press("//h/a", 5)
        for name in ("address", "addresses", "headline", "moments"):
            with self.assertRaises(AttributeError):
                setattr(press, name, None)


class DeedsTest(RefusalCase):
    def press(self, size=1):
        press = Press("//h/a", SMALL, size=size, headline="News")
        press.put(SMALL + 1, "x", link="//h/l", headline="One", text="a", zone=60)
        press.put(SMALL + 2, "y")
        return press

    def check_unchanged(self, kind, fields, press, word, *values, **named):
        before = tells(press)
        self.check_refused(kind, fields, getattr(press, word), *values, **named)
        self.assertEqual(tells(press), before)

    def test_put(self):
        press = self.press()
        entry = press.entries_at(SMALL + 1)[0]
        date = date_of(SMALL + 1, 60)
        self.assertEqual(entry.order, (("x",), ("//h/l",), ("One",), ("a",), (date,), (date,)))
        self.assertIsNone(press.put(SMALL + 3, "x", text="b", zone=-5))
        entry = press.entries_at(SMALL + 3)[0]
        self.assertEqual(entry.order, (("x",), (), ("",), ("b",), (date,), (date_of(SMALL + 3, -5),)))
        press.withdraw(SMALL + 4, "x")
        press.put(SMALL + 5, "x")
        press.put(moment=SMALL + 6, told="x")
        entry = press.entries_at(SMALL + 6)[0]
        self.assertEqual((entry.published, entry.changed), (date_of(SMALL + 5), date_of(SMALL + 6)))

    def test_put_of_wrong_moments(self):
        press = self.press()
        for moment in NO_MOMENTS + (SMALL + 1, SMALL, 0):
            self.check_unchanged(BadMoment, {"given": moment}, press, "put", moment, "z")
            self.check_unchanged(BadMoment, {"given": moment}, press, "put", moment, None, zone=None)
            self.check_unchanged(BadMoment, {"given": moment}, press, "withdraw", moment, "x")
            self.check_unchanged(BadMoment, {"given": moment}, press, "withdraw", moment, "z")
            self.check_unchanged(BadMoment, {"given": moment}, press, "move", moment, "//h/b")
            self.check_unchanged(BadMoment, {"given": moment}, press, "move", moment, None)
        for word in ("put", "withdraw"):
            self.check_unchanged(BadMoment, {"given": SMALL + 2}, press, word, SMALL + 2, "y")
        press.put(SMALL + 2, "z")
        press.withdraw(SMALL + 2, "x")
        for word in ("put", "withdraw"):
            self.check_unchanged(BadMoment, {"given": SMALL + 2}, press, word, SMALL + 2, "x")
        press.move(SMALL + 3, "//h/b")
        self.check_unchanged(BadMoment, {"given": SMALL + 2}, press, "put", SMALL + 2, "q")
        press.put(SMALL + 3, "x")
        self.check_unchanged(BadMoment, {"given": SMALL + 3}, press, "withdraw", SMALL + 3, "x")

    def test_put_of_wrong_zones(self):
        press = self.press()
        for zone in ODD_OBJECTS + (-841, 841):
            self.check_unchanged(BadZone, {"given": zone}, press, "put", SMALL + 3, "z", zone=zone)
            self.check_unchanged(BadZone, {"given": zone}, press, "put", SMALL + 3, None, zone=zone, link=0)
        press = Press("//h/a", 5)
        self.check_refused(BadDate, {"given": (5, -1)}, press.put, 5, "z", zone=-1)
        self.check_refused(BadDate, {"given": (5, -1)}, press.put, 5, None, zone=-1)
        self.assertEqual(press.moments, (5,))
        last = Press("//h/a", LAST_MOMENT)
        self.check_refused(BadDate, {"given": (LAST_MOMENT, 1)}, last.put, LAST_MOMENT, "z", zone=1)
        last.put(LAST_MOMENT, "z")
        self.assertEqual(last.entries_at(LAST_MOMENT)[0].changed, (9999, 13, 29, 23, 59, 59, 0))

    def test_put_of_wrong_fields(self):
        press = self.press()
        for told in ODD_OBJECTS + (" a", "a\n", "x" * 41):
            if told != "x":
                self.check_unchanged(BadEntry, {"field": "told"}, press, "put", SMALL + 3, told)
                self.check_unchanged(BadEntry, {"field": "told"}, press, "put", SMALL + 3, told, link="//h/l", headline=0)
        for link in ODD_OBJECTS[1:] + ("//h", "//H/", "//h/l"):
            self.check_unchanged(BadEntry, {"field": "link"}, press, "put", SMALL + 3, "z", link=link)
            self.check_unchanged(BadEntry, {"field": "link"}, press, "put", SMALL + 3, "z", link=link, headline=None, text=0)
        for headline in (None, 5, " a", "x" * 81):
            self.check_unchanged(BadEntry, {"field": "headline"}, press, "put", SMALL + 3, "z", headline=headline, text=None)
        for text in (None, 5, " a", "x" * 2001):
            self.check_unchanged(BadEntry, {"field": "text"}, press, "put", SMALL + 3, "z", text=text)

    def test_a_link_belongs_to_one_told(self):
        press = self.press()
        press.put(SMALL + 3, "x", link="//h/m")
        press.put(SMALL + 4, "x")
        for link in ("//h/l", "//h/m"):
            self.check_unchanged(BadEntry, {"field": "link"}, press, "put", SMALL + 5, "y", link=link)
        press.withdraw(SMALL + 5, "x")
        for link in ("//h/l", "//h/m"):
            self.check_unchanged(BadEntry, {"field": "link"}, press, "put", SMALL + 6, "y", link=link)
        press.put(SMALL + 6, "x", link="//h/l")
        press.put(SMALL + 6, "y", link="//h/n")
        self.check_unchanged(BadEntry, {"field": "link"}, press, "put", SMALL + 7, "x", link="//h/n")

    def test_sixty_puts(self):
        press = Press("//h/a", SMALL)
        for number in range(60):
            press.put(SMALL + number, f"t{number // 2}")
        self.check_unchanged(TooMany, {"what": "puts"}, press, "put", SMALL + 60, "z")
        self.check_unchanged(BadEntry, {"field": "text"}, press, "put", SMALL + 60, "z", text=" ")
        press.withdraw(SMALL + 60, "t3")
        self.check_unchanged(TooMany, {"what": "puts"}, press, "put", SMALL + 61, "t3")
        press.move(SMALL + 61, "//h/b")
        self.assertEqual(len(press.entries_at(SMALL + 60)), 29)
        self.assertEqual(len(press.windows(SMALL + 60)), 60)

    def test_sixty_are_withdrawn(self):
        press = Press("//h/a", SMALL, size=9)
        for number in range(60):
            press.put(SMALL, f"t{number}")
        for number in range(60):
            press.withdraw(SMALL + 1 + number, f"t{number}")
        page = press.page_at("//h/a", SMALL + 60)
        self.assertEqual(page.notices, tuple(("told", f"t{n}", date_of(SMALL + 1 + n)) for n in reversed(range(60))))
        self.assertEqual((page.entries, press.entries_at(SMALL + 60)), ((), ()))

    def test_withdraw(self):
        press = self.press()
        for told in ODD_OBJECTS[:5] + ("z", " x", ["x"], ("x",), {}, b"x", ""):
            self.check_unchanged(NoEntry, {"given": told}, press, "withdraw", SMALL + 3, told)
        self.assertIsNone(press.withdraw(moment=SMALL + 3, told="x"))
        self.check_unchanged(NoEntry, {"given": "x"}, press, "withdraw", SMALL + 4, "x")
        press.put(SMALL + 4, "x")
        press.withdraw(SMALL + 5, "x")
        page = press.page_at("//h/a", SMALL + 5)
        self.assertEqual(page.notices, (("told", "x", date_of(SMALL + 5)),))
        self.assertEqual(press.page_at("//h/a", SMALL + 4).notices, ())

    def test_withdraw_what_is_archived(self):
        press = self.press()
        press.put(SMALL + 3, "z")
        press.withdraw(SMALL + 4, "x")
        page = press.page_at("//h/a", SMALL + 4)
        self.assertEqual(([entry.told for entry in page.entries], page.notices), (["z"], (("told", "x", date_of(SMALL + 4)),)))
        self.assertEqual([entry.told for entry in press.page_at("//h/a/old/1", SMALL + 4).entries], ["y", "x"])
        self.assertEqual([entry.told for entry in press.entries_at(SMALL + 4)], ["z", "y"])

    def test_the_last_one_withdrawn_is_first(self):
        press = self.press()
        press.put(SMALL + 2, "z")
        press.withdraw(SMALL + 3, "y")
        press.withdraw(SMALL + 3, "x")
        press.withdraw(SMALL + 3, "z")
        self.assertEqual([word for _, word, _ in press.page_at("//h/a", SMALL + 3).notices], ["z", "x", "y"])

    def test_move(self):
        press = self.press()
        for address in NO_ADDRESSES:
            self.check_unchanged(BadAddress, {"given": address}, press, "move", SMALL + 3, address)
        self.check_unchanged(Taken, {"given": "//h/a"}, press, "move", SMALL + 3, "//h/a")
        self.assertIsNone(press.move(moment=SMALL + 3, address="//h/b"))
        for address in ("//h/a", "//h/b"):
            self.check_unchanged(Taken, {"given": address}, press, "move", SMALL + 3, address)
        self.assertEqual((press.address, press.addresses), ("//h/b", ("//h/a", "//h/b")))

    def test_nine_moves(self):
        press = Press("//h/a", SMALL)
        for number in range(9):
            press.move(SMALL, f"//h/m{number}")
        self.check_unchanged(TooMany, {"what": "moves"}, press, "move", SMALL + 1, "//h/b")
        self.check_unchanged(Taken, {"given": "//h/a"}, press, "move", SMALL + 1, "//h/a")
        self.check_unchanged(BadAddress, {"given": "//h/"}, press, "move", SMALL + 1, "//h/")
        self.assertEqual(press.page_at("//h/a", SMALL), ("moved", "//h/m0"))
        self.assertEqual(press.page_at("//h/m7", SMALL), ("moved", "//h/m8"))
        self.assertEqual(press.page_at("//h/m8", SMALL), Page(here="//h/m8"))
        press.put(SMALL, "x")


class PagesTest(RefusalCase):
    def test_example(self):
        press = Press("//h/a", 1000000, size=1)
        press.put(1000001, "x")
        press.put(1000002, "y")
        press.put(1000003, "z")
        press.move(1000004, "//h/b")
        self.assertEqual(press.page_at("//h/b", 1000004).older, "//h/b/old/1")
        self.assertEqual([entry.told for entry in press.page_at("//h/b/old/1", 1000004).entries], ["y", "x"])
        self.assertEqual(press.page_at("//h/a/old/1", 1000004), ("moved", "//h/b/old/1"))
        self.assertEqual(press.windows(1000009), ((1000001, 1000003), (1000002, 1000003), (1000003, 1000010)))

    def test_several_deeds_of_one_moment(self):
        press = Press("//h/a", SMALL, size=1)
        for told in "xyz":
            press.put(SMALL, told)
        press.move(SMALL, "//h/b")
        press.move(SMALL, "//h/c")
        self.assertEqual(press.page_at("//h/a", SMALL), ("moved", "//h/b"))
        self.assertEqual(press.page_at("//h/a/old/1", SMALL), ("moved", "//h/b/old/1"))
        self.assertEqual(press.page_at("//h/b/old/1", SMALL), ("moved", "//h/c/old/1"))
        self.assertEqual(press.page_at("//h/c", SMALL).older, "//h/c/old/1")
        self.assertEqual(press.windows(SMALL), ((SMALL, SMALL), (SMALL, SMALL), (SMALL, SMALL + 1)))
        self.assertEqual(press.moments, (SMALL,))

    def test_an_archive_that_is_younger_than_a_move(self):
        press = Press("//h/a", SMALL, size=1)
        press.move(SMALL, "//h/b")
        for told in "xyz":
            press.put(SMALL, told)
        self.assertIsNone(press.page_at("//h/a/old/1", SMALL))
        self.assertTrue(press.page_at("//h/b/old/1", SMALL).is_archive)

    def test_what_is_no_address_of_it(self):
        press = Press("//h/a", SMALL, size=1)
        for told in "wxyz":
            press.put(SMALL, told)
        for address in ODD_OBJECTS + ("//h/a/old/0", "//h/a/old/2", "//h/a/old/", "//h/a/old", "//h/a/old/01", "//h/a/old/1/",
                                      "//h/a/old/+1", "//h/a/old/1 ", "//h/A", "//h/a/", "//h/b", "//h/a/old/x", ["//h/a"]):
            for moment in (SMALL - 1, SMALL, LAST_MOMENT):
                self.assertIsNone(press.page_at(address, moment))
        self.assertIsNotNone(press.page_at(address="//h/a/old/1", moment=SMALL))

    def test_wrong_moments(self):
        press = Press("//h/a", SMALL)
        for moment in NO_MOMENTS:
            for address in ("//h/a", "//h/x", None):
                self.check_refused(BadMoment, {"given": moment}, press.page_at, address, moment)
            self.check_refused(BadMoment, {"given": moment}, press.entries_at, moment)
            self.check_refused(BadMoment, {"given": moment}, press.windows, moment)
        self.check_refused(BadMoment, {"given": LAST_MOMENT}, press.windows, goal=LAST_MOMENT)
        self.assertEqual(press.entries_at(moment=0), ())
        self.assertEqual(press.windows(LAST_MOMENT - 1), ())
        self.assertIsNone(press.page_at("//h/a", SMALL - 1))

    def test_all_sizes(self):
        for size in range(1, 10):
            press = Press("//h/a", SMALL, size=size)
            for number in range(60):
                press.put(SMALL + number, f"t{number}")
            count = (60 - 2 * size - 1) // (size + 1) + 1
            page = press.page_at("//h/a", LAST_MOMENT)
            self.assertEqual(page.older, f"//h/a/old/{count}")
            self.assertIsNone(press.page_at(f"//h/a/old/{count + 1}", LAST_MOMENT))
            tolds = [entry.told for entry in page.entries]
            for number in range(count, 0, -1):
                archive = press.page_at(f"//h/a/old/{number}", LAST_MOMENT)
                self.assertEqual((archive.is_archive, len(archive.entries), archive.notices), (True, size + 1, ()))
                self.assertEqual(archive.older, f"//h/a/old/{number - 1}" if number > 1 else None)
                tolds += [entry.told for entry in archive.entries]
            self.assertEqual(tolds, [f"t{number}" for number in reversed(range(60))])

    def test_leap_second(self):
        leap = moment_of((40, 13, 30, 23, 59, 60, 0))
        press = Press("//h/a", leap - 1)
        for moment, zone in ((leap - 1, 0), (leap, 330), (leap + 1, -840)):
            press.put(moment, "x", zone=zone)
            self.assertEqual(press.entries_at(moment)[0].changed, date_of(moment, zone))
        press.withdraw(leap + 2, "x")
        press.put(leap + 2, "y")
        self.assertEqual(press.page_at("//h/a", leap + 2).notices, (("told", "x", date_of(leap + 2)),))

    def test_random_presses(self):
        rng = random.Random(10)
        for number in range(80):
            size = rng.choice((1, 1, 2, 3, 9))
            deeds = some_deeds(rng, rng.choice((10, 30, 70)))
            press = do(Press("//h/p0", deeds[0][0], size=size, headline="N"), deeds)
            moments = sorted({deed[0] for deed in deeds})
            self.assertEqual(press.moments, tuple(moments))
            self.assertEqual(press.addresses, tuple(deed[2] for deed in deeds if deed[1] == "move"))
            addresses = list(told_at(deeds, LAST_MOMENT, size)[0]) + ["//h/p0/old/31", "//h/q"]
            self.assertEqual(set(press.page_addresses()) | {"//h/p0/old/31", "//h/q"}, set(addresses))
            for moment in sorted({0, moments[0] - 1, LAST_MOMENT - 1} | {m + d for m in moments for d in (0, 1)}):
                stands, entries, windows = told_at(deeds, moment, size, "N")
                for address in addresses:
                    self.assertEqual(press.page_at(address, moment), stands.get(address), (address, moment))
                self.assertEqual(press.entries_at(moment), entries)
                self.assertEqual(press.windows(moment), tuple((a, moment + 1 if b is None else b) for a, b in windows))

    def test_facts_of_pages(self):
        rng = random.Random(11)
        for number in range(40):
            deeds = some_deeds(rng, 50)
            press = do(Press("//h/p0", deeds[0][0], size=1), deeds)
            archives = {}
            for moment in press.moments:
                pages = [press.page_at(address, moment) for address in press.page_addresses()]
                pages = [page for page in pages if isinstance(page, Page)]
                entries = [entry for page in pages for entry in page.entries]
                for page in pages:
                    if page.is_archive:
                        key = page.here.rpartition("/")[2]
                        self.assertEqual(archives.setdefault(key, page.entries), page.entries)
                for entry in press.entries_at(moment):
                    versions = [other for other in entries if other.told == entry.told]
                    self.assertEqual(max(versions, key=lambda version: moment_of(version.changed)), entry)
                for _, told, date in (notice for page in pages for notice in page.notices):
                    self.assertNotIn(told, [entry.told for entry in press.entries_at(moment)])
                    for entry in entries:
                        self.assertTrue(entry.told != told or moment_of(entry.changed) < moment_of(date))


if __name__ == "__main__":
    unittest.main()
