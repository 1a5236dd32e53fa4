"""Entries, notices and pages: promises [20], [21] and [22], and the order of an entry from [62]."""

import itertools
import unittest

from feedreader.errors import BadEntry, BadPage
from feedreader.pages import Entry, Page, is_notice
from tests.objects import NO_STRINGS, ODD_OBJECTS
from tests.samples import DATES, FULL, some_pages

DATE, OTHER_DATE = DATES[:2]
ALL = {"told": "t", "link": "//h/a", "headline": "h", "text": "x\n y ", "published": DATE, "changed": OTHER_DATE}
NO_DATES = ODD_OBJECTS[1:] + (DATE[:6], list(DATE), DATE + (0,), (123, 4, 29, 0, 0, 0, 0), "123/093@06:07:08Z")
NO_ADDRESSES = ODD_OBJECTS[1:] + ("//H/", "/a", "//h", "//h/ ")
NO_LINES = NO_STRINGS + (" a", "a ", " ", "a\n", "\n", "a\nb")
WRONG = {
    "told": NO_LINES[1:] + ("", "x" * 41), "link": NO_ADDRESSES, "headline": NO_LINES + ("x" * 81,),
    "text": NO_STRINGS + (" ", " a", "a ", "a \nb", " \nb", "x" * 2001, "\n" * 2001), "published": NO_DATES, "changed": NO_DATES,
}
ENTRY = Entry(told="a")
NOTICE = ("told", "a", None)


class EntryTest(unittest.TestCase):
    def check_refused(self, field, **fields):
        with self.assertRaises(BadEntry) as caught:
            Entry(**fields)
        self.assertEqual(caught.exception.field, field, fields)

    def test_properties(self):
        entry = Entry(**ALL)
        for field, value in ALL.items():
            self.assertEqual(getattr(entry, field), value)
            with self.assertRaises(AttributeError):
                setattr(entry, field, value)

    def test_defaults(self):
        entry = Entry(told="t")
        self.assertEqual(
            (entry.told, entry.link, entry.headline, entry.text, entry.published, entry.changed), ("t", None, "", "", None, None))

    def test_only_by_name(self):
        with self.assertRaises(TypeError):
            Entry("t")
        with self.assertRaises(TypeError):
            Page("h")

    def test_edges(self):
        for fields in (
            {"told": "x"}, {"told": "x" * 40}, {"told": "a  b"}, {"told": ":"}, {"headline": "x" * 80}, {"text": "x" * 2000},
            {"text": "\n" * 2000}, {"text": "\n"}, {"text": "\n "}, {"text": "a\n b \n"}, {"link": "//h/"},
            {"told": "x", "headline": "", "text": ""}, {"link": "//h/" + "/" * 116},
        ):
            entry = Entry(**fields)
            for field, value in fields.items():
                self.assertEqual(getattr(entry, field), value)

    def test_each_wrong_field(self):
        for field, values in WRONG.items():
            for value in values:
                self.check_refused(field, **{**ALL, field: value})
                self.check_refused(field, **{field: value})

    def test_the_first_wrong_field_is_told(self):
        for one, other in itertools.combinations(WRONG, 2):
            self.check_refused(one, **{other: WRONG[other][0], one: WRONG[one][0]})

    def test_something_has_to_be_there(self):
        self.check_refused("told")
        self.check_refused("told", headline="", text="", published=DATE, changed=DATE)
        self.check_refused("changed", changed=0)
        for field in ("told", "link", "headline", "text"):
            self.assertEqual(getattr(Entry(**{field: ALL[field]}), field), ALL[field])

    def test_signs(self):
        self.assertEqual(Entry(**ALL).signs, (("told", "t"), ("link", "//h/a")))
        self.assertEqual(Entry(told="t", headline="h").signs, (("told", "t"),))
        self.assertEqual(Entry(link="//h/", text="x").signs, (("link", "//h/"),))
        self.assertEqual(Entry(headline="h", text="x\ny", changed=DATE).signs, (("words", "h\nx\ny"),))
        self.assertEqual(Entry(headline="h").signs, (("words", "h\n"),))
        self.assertEqual(Entry(text="x").signs, (("words", "\nx"),))

    def test_order(self):
        self.assertEqual(Entry(**ALL).order, (("t",), ("//h/a",), ("h",), ("x\n y ",), (DATE,), (OTHER_DATE,)))
        self.assertEqual(Entry(told="t").order, (("t",), (), ("",), ("",), (), ()))
        self.assertEqual(Entry(headline="h", changed=DATE).order, ((), (), ("h",), ("",), (), (DATE,)))
        entries = [entry for page in some_pages(1, 60) for entry in page.entries]
        for one, other in itertools.pairwise(sorted(entries, key=lambda entry: entry.order)):
            self.assertEqual(one.order == other.order, one == other)

    def test_equality(self):
        entry = Entry(**ALL)
        self.assertTrue(entry == Entry(**ALL))
        self.assertFalse(entry != Entry(**ALL))
        others = {"told": "u", "link": "//h/b", "headline": "i", "text": "y", "published": OTHER_DATE, "changed": DATE}
        for field, value in others.items():
            for changed in (value, "" if field in ("headline", "text") else None):
                self.assertFalse(entry == Entry(**{**ALL, field: changed}))
        for value in ODD_OBJECTS + (entry.order, Page(), "t"):
            self.assertIs(entry == value, False)
            self.assertIs(entry != value, True)


class NoticeTest(unittest.TestCase):
    def test_notices(self):
        for value in (("told", "a", None), ("told", "x" * 40, DATE), ("link", "//h/", None), ("link", "//h/a", DATE),
                      ("told", "//h/", None)):
            self.assertIs(is_notice(value), True, value)

    def test_every_other_object(self):
        for value in ODD_OBJECTS + (ENTRY, FULL):
            self.assertIs(is_notice(value), False)
            self.assertIs(is_notice((value, "a", None)), False)
            self.assertIs(is_notice(("link", value, None)), False)
            if value != "x":
                self.assertIs(is_notice(("told", value, None)), False)
            if value is not None:
                self.assertIs(is_notice(("told", "a", value)), False)
        for value in (
            ("told", "a"), ("told", "a", None, None), ["told", "a", None], ("told", "x" * 41, None), ("told", " a", None),
            ("told", "a\n", None), ("link", "a", None), ("words", "a\n", None), ("Told", "a", None), ("link", "//h", None),
            (("told", "a"), None), ("told", "a", list(DATE)), ("told", "a", DATE[:6]), ("gone", "a", None),
        ):
            self.assertIs(is_notice(value), False, value)


class PageTest(unittest.TestCase):
    fields = {"headline": "h", "here": "//h/a", "older": "//h/b", "is_archive": True, "entries": (ENTRY,), "notices": (NOTICE,)}
    wrong = {
        "headline": NO_LINES + ("x" * 81,), "here": NO_ADDRESSES, "older": NO_ADDRESSES,
        "is_archive": (None, 0, 1, "", "yes", ()), "entries": (None, [], [ENTRY], ENTRY, "", {}, 0, (ENTRY,) * 61, (None,) * 61),
        "notices": (None, [], [NOTICE], "", {}, 0, (NOTICE,) * 61, (None,) * 61),
    }

    def check_refused(self, field, number, **fields):
        with self.assertRaises(BadPage) as caught:
            Page(**fields)
        self.assertEqual((caught.exception.field, caught.exception.number), (field, number), fields)

    def test_properties(self):
        page = Page(**self.fields)
        for field, value in self.fields.items():
            self.assertEqual(getattr(page, field), value)
            with self.assertRaises(AttributeError):
                setattr(page, field, value)

    def test_defaults(self):
        page = Page()
        self.assertEqual(
            (page.headline, page.here, page.older, page.is_archive, page.entries, page.notices), ("", None, None, False, (), ()))

    def test_each_wrong_field(self):
        for field, values in self.wrong.items():
            for value in values:
                self.check_refused(field, None, **{**self.fields, field: value})

    def test_wrong_elements(self):
        for value in ODD_OBJECTS + (NOTICE, FULL):
            self.check_refused("entries", 0, entries=(value,))
            self.check_refused("entries", 2, entries=(ENTRY, ENTRY, value, ENTRY, value))
            self.check_refused("entries", 59, entries=(ENTRY,) * 59 + (value,), notices=None)
        for value in ODD_OBJECTS + (ENTRY, FULL, ("told", "", None), list(NOTICE)):
            self.check_refused("notices", 0, notices=(value, value))
            self.check_refused("notices", 59, notices=(NOTICE,) * 59 + (value,))

    def test_the_first_wrong_field_is_told(self):
        for one, other in itertools.combinations(self.wrong, 2):
            self.check_refused(one, None, **{other: self.wrong[other][0], one: self.wrong[one][0]})
        self.check_refused("entries", 1, entries=(ENTRY, 0), notices=0)

    def test_sixty(self):
        page = Page(entries=(ENTRY,) * 60, notices=(NOTICE,) * 60)
        self.assertEqual((len(page.entries), len(page.notices)), (60, 60))

    def test_truth(self):
        self.assertIs(bool(Page(headline="h", here="//h/", older="//h/", is_archive=True)), False)
        self.assertIs(bool(Page(entries=(ENTRY,))), True)
        self.assertIs(bool(Page(notices=(NOTICE,))), True)

    def test_equality(self):
        page = Page(**self.fields)
        self.assertTrue(page == Page(**self.fields))
        self.assertFalse(page != Page(**self.fields))
        self.assertTrue(Page() == Page())
        others = {"headline": "i", "here": None, "older": "//h/a", "is_archive": False, "entries": (), "notices": (NOTICE, NOTICE)}
        for field, value in others.items():
            self.assertFalse(page == Page(**{**self.fields, field: value}), field)
        for value in ODD_OBJECTS + (ENTRY, NOTICE):
            self.assertIs(page == value, False)
            self.assertIs(page != value, True)


if __name__ == "__main__":
    unittest.main()
