"""Pages as texts in rows: promises [25], [26], [27] and, for rows, [33]."""

import random
import unittest

from feedreader.addresses import resolve
from feedreader.errors import BadAddress, BadText
from feedreader.pages import Entry, Page
from feedreader.rows import read_rows, write_rows
from tests.objects import NO_STRINGS, ODD_OBJECTS
from tests.samples import DATES, FULL, some_pages

BASES = (None, "//h/a", "//h/f", "//h/a/b/", "//g.x/", "//q/")
NO_BASES = ODD_OBJECTS[1:] + ("//", "//H/", "/a", ["//h/"])
FULL_TEXT = """feed: News
here:{fore}{here}
older: {older}
archive: yes

entry: t1
link: {x}
headline: One
published: Be 9 Elm 123 06:07:08 +05:30
changed: Ar 1 Ash 1 00:00:00 Z
text: a
{blank}
  b{blank}
{blank}

entry:
headline: Two

entry:
link: {g}

entry:
text:
{blank}

gone: told t0

gone: link{fore}{here}
at: Rest 30 Yew 4 10:20:30 -00:01

gone: told x
at: Be 9 Elm 123 06:07:08 +05:30"""
WORDS = ("feed", "here", "older", "archive", "entry", "link", "headline", "published", "changed", "text", "gone", "at", "x", "")
VALUES = (
    "", "yes", "told a", "told", "link", "link b", "link  b", "told  b", "//g/c", "c", "..", "#x", "a b", "x" * 41, "x" * 81,
    "Be 9 Elm 123 06:07:08 +05:30", "gi 9 elm 123 06:07", "9 elm 123", "a:b",
)


def marks(*rows):
    """Remarks of pairs (line, word)."""
    return tuple((line, 1, word) for line, word in rows)


def some_lines(rng):
    """Lines as they may stand in a text of rows, and some that may not."""
    rows = []
    for _ in range(rng.choice((1, 3, 8, 20))):
        kind = rng.random()
        if kind < 0.6:
            word = rng.choice(WORDS)
            word = rng.choice((word, word, word.upper(), word + " "))
            rows.append(word + ":" + rng.choice(("", " ", "  ")) + rng.choice(VALUES) + rng.choice(("", "", " ")))
        else:
            rows.append(rng.choice(("", "", "", " ", " a", "  b ", "lost", " c: d", "x" * 50)))
    return "\n".join(rows)


class WriteTest(unittest.TestCase):
    def test_fields(self):
        text = FULL_TEXT.format(here="//h/f", older="//h/f/old", x="//h/x", g="//g/", fore=" ", blank=" ")
        self.assertEqual(write_rows(FULL), text)
        text = FULL_TEXT.format(here="", older="f/old", x="x", g="//g", fore="", blank=" ")
        self.assertEqual(write_rows(FULL, "//h/f"), text)
        text = FULL_TEXT.format(here="/f", older="old", x="/x", g="//g", fore=" ", blank=" ")
        self.assertEqual(write_rows(FULL, base="//h/f/"), text)

    def test_what_is_not_there_is_not_written(self):
        self.assertEqual(write_rows(Page()), "feed:")
        self.assertEqual(write_rows(Page(headline="a: b")), "feed: a: b")
        self.assertEqual(write_rows(Page(here="//h/a"), "//h/a"), "feed:\nhere:")
        self.assertEqual(write_rows(Page(older="//h/a"), "//h/a"), "feed:\nolder:")
        self.assertEqual(write_rows(Page(is_archive=True)), "feed:\narchive: yes")
        self.assertEqual(write_rows(Page(entries=(Entry(told="a"),))), "feed:\n\nentry: a")
        self.assertEqual(write_rows(Page(entries=(Entry(link="//h/"),)), "//h/"), "feed:\n\nentry:\nlink:")
        self.assertEqual(write_rows(Page(notices=(("link", "//h/", None),)), "//h/"), "feed:\n\ngone: link")
        self.assertEqual(write_rows(Page(notices=(("link", "//h/", None),)), "//h/a"), "feed:\n\ngone: link .")

    def test_values_of_several_lines(self):
        for text, written in (
            ("a", "text: a"), ("a\nb", "text: a\n b"), ("a\n\n\nb", "text: a\n \n \n b"), ("a\n", "text: a\n "),
            ("\n", "text:\n "), ("\na", "text:\n a"), ("a\n b \n  ", "text: a\n  b \n   "), ("a\nlink: x", "text: a\n link: x"),
        ):
            page = Page(entries=(Entry(text=text),))
            self.assertEqual(write_rows(page), "feed:\n\nentry:\n" + written)
            self.assertEqual(read_rows(write_rows(page)), (page, ()))

    def test_base_that_is_none(self):
        for base in NO_BASES:
            for call in (write_rows, read_rows):
                for value in (FULL, "feed:", None, 5):
                    with self.assertRaises(BadAddress) as caught:
                        call(value, base)
                    self.assertIs(caught.exception.given, base)


class ReadTest(unittest.TestCase):
    def check(self, text, page, *rows, base="//h/f"):
        self.assertEqual(read_rows(text, base), (page, marks(*rows)), text)

    def entry(self, text, entry, *rows, base="//h/f"):
        self.check(text, Page(entries=() if entry is None else (entry,)), *rows, base=base)

    def notice(self, text, notice, *rows, base="//h/f"):
        self.check(text, Page(notices=() if notice is None else (notice,)), *rows, base=base)

    def test_no_string(self):
        for value in NO_STRINGS:
            for base in BASES:
                with self.assertRaises(BadText) as caught:
                    read_rows(value, base)
                self.assertEqual((caught.exception.line, caught.exception.column), (0, 0))

    def test_what_is_written_is_read(self):
        for page in some_pages(2, 300) + [FULL, Page()]:
            for base in BASES:
                self.assertEqual(read_rows(write_rows(page, base), base), (page, ()))
        for base in BASES[1:]:
            told = read_rows(text=write_rows(FULL, base), base=base)[0]
            self.assertEqual(told, FULL)

    def test_sixty_are_read(self):
        page = Page(entries=tuple(Entry(told=str(n)) for n in range(60)), notices=tuple(("told", str(n), None) for n in range(60)))
        self.assertEqual(read_rows(write_rows(page)), (page, ()))

    def test_nothing(self):
        for text in ("", "\n", "\n\n\n"):
            self.check(text, Page())
        self.check(" ", Page(), (1, "lost"))
        self.check("a\n\n b: c\n :", Page(), (1, "lost"), (3, "lost"), (4, "lost"))

    def test_words_and_spaces(self):
        self.check("FEED : a  b \nHere:g\noLdEr  :  h", Page(headline="a  b", here="//h/g", older="//h/h"))
        self.entry("Entry:a", Entry(told="a"))
        self.entry("entry: a\nheadline:b:c : d", Entry(told="a", headline="b:c : d"))
        self.entry("entry: a\nhead line: b", Entry(told="a"), (2, "unknown"))
        self.entry("entry: a\n: b", Entry(told="a"), (2, "unknown"))

    def test_empty_lines(self):
        page = Page(headline="a", entries=(Entry(told="b"), Entry(told="c")))
        for text in ("feed: a\n\nentry: b\n\nentry: c", "\n\n\nfeed: a\n\n\n\nentry: b\n\n\nentry: c\n", "feed: a\n\nentry: b\n\nentry: c\n\n"):
            self.check(text, page)

    def test_further_lines(self):
        self.check("feed: a\n b\n  c", Page(headline="a b  c"))
        self.check("feed:\n b \n  ", Page(headline="b"))
        self.check("feed:\n \n ", Page())
        self.check("feed:a\nolder: x\n /y", Page(headline="a"), (2, "address"))
        self.check("feed:a\nolder:\n y\nhere:z", Page(headline="a", older="//h/y", here="//h/z"))
        self.entry("entry: a\ntext: b \n  c: d \n \ne: f\n g", Entry(told="a", text="b\n c: d \n"), (5, "unknown"))
        self.entry("entry: a\npublished: 9 elm\n 123 06:07", Entry(told="a", published=(123, 4, 9, 6, 7, 0, 0)))
        self.entry("entry: a\ntext:  ", Entry(told="a"))
        self.entry("entry: a\nheadline:\n\ntext: b", Entry(told="a"), (4, "block"))
        self.check("feed: a\narchive:\n yes", Page(headline="a", is_archive=True))
        self.notice("gone:\n told\n a", ("told", "a", None))
        self.notice("gone: told\n  a", None, (1, "unfit"))

    def test_blocks_in_any_order(self):
        page = Page(headline="f", entries=(Entry(told="a"), Entry(told="b")), notices=(("told", "c", None), ("told", "d", None)))
        for order in (("gone: told c", "entry: a", "feed: f", "gone: told d", "entry: b"),
                      ("entry: a", "entry: b", "gone: told c", "gone: told d", "feed: f"),
                      ("feed: f", "gone: told c", "gone: told d", "entry: a", "entry: b")):
            self.check("\n\n".join(order), page)

    def test_lost(self):
        self.entry("entry: a\nlost\n b", Entry(told="a b"), (2, "lost"))
        self.entry("lost\n c: d\nentry: a", Entry(told="a"), (1, "lost"), (2, "lost"))
        self.entry(" entry: b\nentry: a", Entry(told="a"), (1, "lost"))
        self.entry("entry: a\ntext: b\nlost\n c\nlost\n d", Entry(told="a", text="b\nc\nd"), (3, "lost"), (5, "lost"))
        self.entry("entry: a\n\nlost", Entry(told="a"), (3, "lost"))
        self.entry("entry: a\nx: y\nlost\n z\nlink: b", Entry(told="a", link="//h/b"), (2, "unknown"), (3, "lost"))

    def test_block(self):
        for word in ("here", "told", "entries", "feeds", "", "text", "at", "headline", "feed feed", "entry entry"):
            self.check(f"{word}: a", Page(), (1, "block"))
        self.check("x: a\nlost\nentry: b\nlink: a b\nx: c\n d", Page(), (1, "block"))
        self.check("lost\n lost\nx: a\nlost\n b\n\nfeed: f", Page(headline="f"), (1, "lost"), (2, "lost"), (3, "block"))

    def test_again_for_blocks(self):
        self.check("feed: a\n\nfeed: b\nhere: c\nlost\nx: y", Page(headline="a"), (3, "again"))
        self.check("feed:\n\nlost\nfeed: b\n\nfeed: c", Page(), (3, "lost"), (4, "again"), (6, "again"))
        self.check("feed: " + "x" * 81 + "\n\nfeed: b", Page(), (1, "unfit"), (3, "again"))
        self.check("entry: a\n\nfeed: b\n\nentry: c\n\nfeed: d\nolder: x", Page(
            headline="b", entries=(Entry(told="a"), Entry(told="c"))), (7, "again"))

    def test_again_for_fields(self):
        self.check("feed: a\nfeed: b\nhere: c\nhere: d", Page(headline="a", here="//h/c"), (2, "again"), (4, "again"))
        self.entry("entry: a\nentry: b\nentry:", Entry(told="a"), (2, "again"), (3, "again"))
        self.entry("entry: a\nlink: a b\nlink: c\n d\nLINK : e", Entry(told="a"), (2, "address"), (3, "again"), (5, "again"))
        self.entry("entry:\nentry: b\nheadline: h", Entry(headline="h"), (2, "again"))
        self.entry("entry: a\nx: 1\nx: 2\n 3\ny: 4\nx: 5", Entry(told="a"), (2, "unknown"), (3, "again"), (5, "unknown"), (6, "again"))
        self.entry("entry: a\ntext: b\ntext: c\n d", Entry(told="a", text="b"), (3, "again"))
        self.notice("gone: x\ngone: told a\nat: b\nat: Ar 1 Ash 1 00:00", None, (1, "value"), (2, "again"), (3, "date"), (4, "again"))

    def test_unknown(self):
        for word in ("entry", "link", "headline", "gone", "told", "text", "at", "feeds", "published"):
            self.check(f"feed: a\n{word}: b\n c", Page(headline="a"), (2, "unknown"))
        for word in ("feed", "here", "older", "archive", "gone", "at", "told", "entries"):
            self.entry(f"entry: a\n{word}: b\n c", Entry(told="a"), (2, "unknown"))
        for word in ("feed", "entry", "link", "told", "text", "headline", "changed", "published"):
            self.notice(f"gone: told a\n{word}: b\n c", ("told", "a", None), (2, "unknown"))

    def test_value(self):
        for value in ("", "no", "Yes", "YES", "yes yes", "y es", "yes.", "true"):
            self.check(f"feed: a\narchive: {value}", Page(headline="a"), (2, "value"))
        self.check("feed: a\narchive: \n yes ", Page(headline="a", is_archive=True))
        for value in ("", "told", "told ", "Told a", "words a", "tolda", "links", "Link", "link: a", "a", "told:a", "gone told a"):
            self.notice(f"gone: {value}\nat: x\nb: c", None, (1, "value"), (2, "date"), (3, "unknown"))

    def test_unfit(self):
        self.check("feed: " + "x" * 80, Page(headline="x" * 80))
        self.check("feed: " + "x" * 81 + "\nhere: a", Page(here="//h/a"), (1, "unfit"))
        self.check("feed: " + "x" * 40 + "\n " + "y" * 39, Page(headline="x" * 40 + " " + "y" * 39))
        self.check("feed: " + "x" * 40 + "\n " + "y" * 40, Page(), (1, "unfit"))
        self.entry("entry: " + "x" * 40, Entry(told="x" * 40))
        self.entry("entry: " + "x" * 41 + "\nheadline: " + "x" * 80, Entry(headline="x" * 80), (1, "unfit"))
        self.entry("entry: a\nheadline: " + "x" * 81 + "\ntext: b", Entry(told="a", text="b"), (2, "unfit"))
        self.entry("entry: a\ntext: " + "x" * 1998 + "\n y", Entry(told="a", text="x" * 1998 + "\ny"))
        self.entry("entry: a\ntext: " + "x" * 1998 + "\n yz", Entry(told="a"), (2, "unfit"))
        self.notice("gone: told " + "x" * 40, ("told", "x" * 40, None))
        self.notice("gone: told " + "x" * 41 + "\nat: x", None, (1, "unfit"), (2, "date"))
        self.notice("gone: told  a", None, (1, "unfit"))

    def test_address(self):
        self.check("feed:\nhere:\nolder: ../x", Page(here="//h/f", older="//h/x"))
        self.check("feed:\nhere: a b\nolder: ///", Page(), (2, "address"), (3, "address"))
        self.entry("entry: a\nlink: //b c", Entry(told="a"), (2, "address"))
        self.entry("entry: a\nlink:", Entry(told="a", link="//h/f"))
        self.entry("entry: a\nlink: #b", Entry(told="a", link="//h/f"))
        self.notice("gone: link", ("link", "//h/f", None))
        self.notice("gone: link ../x", ("link", "//h/x", None))
        self.notice("gone: link a b\nat: x", None, (1, "address"), (2, "date"))
        self.notice("gone: link  a", None, (1, "address"))

    def test_without_a_base(self):
        page = Page(here="//h/", older="//g/a")
        self.check("feed:\nhere: //H\nolder: //g/b/../a#x", page, base=None)
        self.check("feed:\nhere:\nolder: /a", Page(), (2, "address"), (3, "address"), base=None)
        self.entry("entry: a\nlink: b", Entry(told="a"), (2, "address"), base=None)
        self.notice("gone: link", None, (1, "address"), base=None)
        self.notice("gone: link //g", ("link", "//g/", None), base=None)

    def test_dates(self):
        for word in ("published", "changed"):
            self.entry(f"entry: a\n{word}: be 9 ELM 123 06:07:08 +05:30", Entry(**{"told": "a", word: DATES[0]}))
            self.entry(f"entry: a\n{word}: ar 9 elm 123 06:07:08 +05:30", Entry(**{"told": "a", word: DATES[0]}), (2, "weekday"))
            for value in ("", "123/093@06:07:08+05:30", "9 Elm 123", "Be 29 Elm 123 00:00"):
                self.entry(f"entry: a\n{word}: {value}", Entry(told="a"), (2, "date"))
        self.notice("gone: told a\nat: rest  1 ash 1 00:00", ("told", "a", DATES[1]), (2, "weekday"))
        self.notice("gone: told a\nat: 1 ash 0 00:00", ("told", "a", None), (2, "date"))

    def test_empty(self):
        self.check("entry:", Page(), (1, "empty"))
        self.check("entry:\npublished: 1 ash 1 00:00\ntext:\nheadline:", Page(), (1, "empty"))
        self.check("lost\nentry:\nlink: a b\nx: y\nlost", Page(), (1, "lost"), (2, "empty"), (3, "address"), (4, "unknown"), (5, "lost"))
        self.check("entry: " + "x" * 41 + "\nchanged: gi 1 ash 1 00:00", Page(), (1, "unfit"), (2, "weekday"))
        self.entry("entry:\nentry: b\nentry: c\nx: d\ntext:\n ", Entry(text="\n"), (2, "again"), (3, "again"), (4, "unknown"))

    def test_many(self):
        entries = "\n\n".join(f"entry: {n}" for n in range(60))
        page = Page(entries=tuple(Entry(told=str(n)) for n in range(60)))
        self.check(entries + "\n\nlost\nentry: " + "x" * 41 + "\nlost\nx: y\nlink: a b", page, (121, "lost"), (122, "many"))
        self.check(entries + "\n\nentry:\n\ngone: told a\n\nfeed: b\n\nentry: c", Page(
            headline="b", entries=page.entries, notices=(("told", "a", None),)), (121, "many"), (127, "many"))
        self.check("entry:\n\n" + entries, page, (1, "empty"))
        notices = "\n\n".join(f"gone: told {n}\nat: x" for n in range(60))
        page = Page(notices=tuple(("told", str(n), None) for n in range(60)))
        dates = [(3 * n + 2, "date") for n in range(60)]
        self.check(notices + "\n\ngone: x\nat: y", page, *dates, (181, "many"))
        self.check(notices + "\n\ngone: link\nz\n\nentry: a", Page(
            entries=(Entry(told="a"),), notices=page.notices), *dates, (181, "many"))
        self.check("gone: x\n\n" + notices, page, (1, "value"), *[(line + 2, word) for line, word in dates])


class FactsTest(unittest.TestCase):
    def test_every_string_is_read(self):
        rng = random.Random(3)
        signs = "abdeghilnort: \n" * 3 + "".join(chr(code) for code in range(32, 127))
        texts = ["".join(rng.choice(signs) for _ in range(rng.choice((1, 5, 30, 200)))) for _ in range(2000)]
        for text in texts + [some_lines(rng) for _ in range(3000)]:
            for base in (None, "//h/a/b"):
                page, remarks = read_rows(text, base)
                lines = [line for line, _, _ in remarks]
                self.assertEqual(lines, sorted(set(lines)))
                self.assertTrue(all(column == 1 and 1 <= line <= text.count("\n") + 1 for line, column, _ in remarks))
                for other in (base, "//h/a", None):
                    self.assertEqual(read_rows(write_rows(page, other), other), (page, ()))

    def test_texts_side_by_side(self):
        rng = random.Random(4)
        for _ in range(2000):
            one, other = some_lines(rng), some_lines(rng)
            page, remarks = read_rows(one, "//h/a")
            further, marked = read_rows(other, "//h/a")
            if any(line.partition(":")[0].strip().lower() == "feed" for line in other.split("\n")):
                continue
            count = one.count("\n") + 2
            both = Page(headline=page.headline, here=page.here, older=page.older, is_archive=page.is_archive,
                        entries=page.entries + further.entries, notices=page.notices + further.notices)
            told = remarks + tuple((line + count, 1, word) for line, _, word in marked)
            self.assertEqual(read_rows(one + "\n\n" + other, "//h/a"), (both, told))

    def test_references_are_resolved(self):
        for reference in ("", "x", "..", "/x/./y", "//B", "#", "a b", "../../x"):
            page, _ = read_rows("feed:\nolder: " + reference, "//h/a/b")
            self.assertEqual(page.older, resolve("//h/a/b", reference))


if __name__ == "__main__":
    unittest.main()
