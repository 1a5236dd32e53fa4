"""Pages as texts in nest: promises [30], [31], [32] and, for nest, [33]."""

import random
import re
import unittest

from feedreader.errors import BadAddress, BadText
from feedreader.nest import read_nest, write_nest
from feedreader.pages import Entry, Page
from tests.objects import NO_STRINGS
from tests.samples import DATES, FULL, some_pages
from tests.test_rows import BASES, NO_BASES

FULL_TEXT = (
    '(feed "News" (here "{here}") (older "{older}") (archive) (entry (told "t1") (link "{x}") (headline "One") '
    '(published "123/093@06:07:08+05:30") (changed "1/001@00:00:00Z") (text "a\\n\\n b \\n")) (entry (headline "Two")) '
    '(entry (link "{g}")) (entry (text "\\n")) (gone (told "t0")) (gone (link "{here}") (at "4/366@10:20:30-00:01")) '
    '(gone (told "x") (at "123/093@06:07:08+05:30")))'
)
PIECES = re.compile(r'\(|\)|[a-z]+|"(?:[^"\\\n]|\\["\\n])*"')


def refused_at(text):
    """The index at which promise [31] refuses a text, None if it is read; by a grammar of whole prefixes."""
    at, depth, count, closed, wanted = 0, 0, 0, False, "("
    while True:
        at = re.compile("[ \n]*").match(text, at).end()
        if at == len(text):
            return None if closed else at
        found = PIECES.match(text, at)
        piece = found.group() if found else text[at]
        kind = "a" if piece[0].islower() else piece[0]
        if kind not in wanted or kind == "(" and depth == 8:
            return at
        if kind == "a" and (len(piece) > 12 or count == 0 and piece != "feed"):
            return at
        if kind == '"' and not found:
            inner = re.compile(r'"(?:[^"\\\n]|\\["\\n])*\\?').match(text, at)
            return inner.end()
        depth += {"(": 1, ")": -1}.get(kind, 0)
        closed = depth == 0
        wanted = "" if closed else "a" if kind == "(" else '"' if kind == "a" and count == 0 else '()"'
        count += kind == "a"
        at += len(piece)


def place(text, at):
    """Line and column of an index."""
    before = text[:at].split("\n")
    return (len(before), len(before[-1]) + 1)


def some_list(rng, depth=0):
    """The text of a list as it may stand in a page, and some that may not."""
    word = rng.choice(("here", "older", "archive", "entry", "gone", "told", "link", "headline", "published", "changed", "text",
                       "at", "x"))
    if depth == 0:
        word = rng.choice((word, "entry", "gone", "here"))
    pieces = [word]
    for _ in range(rng.choice((0, 1, 1, 1, 2, 4))):
        if rng.random() < (0.3 if depth == 0 and word in ("entry", "gone") else 0.8):
            pieces.append(rng.choice(('""', '"a"', '"//h/x"', '"a b"', '" a"', '"123/093@06:07:08Z"', '"\\n"', '"' + "x" * 41 + '"')))
        elif depth < 3:
            pieces.append(some_list(rng, depth + 1))
    return "(" + rng.choice(("", " ", "\n")).join(pieces) + ")"


class WriteTest(unittest.TestCase):
    def test_text(self):
        text = FULL_TEXT.format(here="//h/f", older="//h/f/old", x="//h/x", g="//g/")
        self.assertEqual(write_nest(FULL), text)
        text = FULL_TEXT.format(here="", older="f/old", x="x", g="//g")
        self.assertEqual(write_nest(FULL, "//h/f"), text)
        text = FULL_TEXT.format(here="/f", older="old", x="/x", g="//g")
        self.assertEqual(write_nest(FULL, base="//h/f/"), text)

    def test_what_is_not_there_is_not_written(self):
        self.assertEqual(write_nest(Page()), '(feed "")')
        self.assertEqual(write_nest(Page(headline="a")), '(feed "a")')
        self.assertEqual(write_nest(Page(here="//h/a"), "//h/a"), '(feed "" (here ""))')
        self.assertEqual(write_nest(Page(older="//h/a"), "//h/a"), '(feed "" (older ""))')
        self.assertEqual(write_nest(Page(is_archive=True)), '(feed "" (archive))')
        self.assertEqual(write_nest(Page(entries=(Entry(told="a"),))), '(feed "" (entry (told "a")))')
        self.assertEqual(write_nest(Page(notices=(("link", "//h/", None),)), "//h/"), '(feed "" (gone (link "")))')

    def test_strings(self):
        for headline, text in (('a"b', 'a\\"b'), ("a\\b", "a\\\\b"), ("\\n", "\\\\n"), ('\\"', '\\\\\\"'), ("(a)", "(a)")):
            self.assertEqual(write_nest(Page(headline=headline)), f'(feed "{text}")')
        entry = Entry(text='a\n\n"\\\n n')
        self.assertEqual(write_nest(Page(entries=(entry,))), '(feed "" (entry (text "a\\n\\n\\"\\\\\\n n")))')

    def test_one_line(self):
        for page in some_pages(5, 100):
            self.assertNotIn("\n", write_nest(page))

    def test_base_that_is_none(self):
        for base in NO_BASES:
            for call in (write_nest, read_nest):
                for value in (FULL, '(feed "")', "", None, 5):
                    with self.assertRaises(BadAddress) as caught:
                        call(value, base)
                    self.assertIs(caught.exception.given, base)


class ListTest(unittest.TestCase):
    def check_refused(self, text, line, column):
        with self.assertRaises(BadText) as caught:
            read_nest(text)
        self.assertEqual((caught.exception.line, caught.exception.column), (line, column), text)

    def test_no_string(self):
        for value in NO_STRINGS:
            self.assertRaises(BadText, read_nest, value)
            for base in BASES:
                with self.assertRaises(BadText) as caught:
                    read_nest(value, base)
                self.assertEqual((caught.exception.line, caught.exception.column), (0, 0))

    def test_examples(self):
        self.check_refused("", 1, 1)
        self.check_refused("(fe", 1, 2)
        self.check_refused("(feed", 1, 6)

    def test_texts_that_end_too_early(self):
        text = ' (feed\n "a\\n"\n(x "b" )\n)'
        for end in range(len(text)):
            if end not in (3, 4, 5):
                self.check_refused(text[:end], *place(text, end))
        self.assertEqual(read_nest(text), (Page(), ((2, 2, "unfit"), (3, 1, "unknown"))))
        self.check_refused("\n\n", 3, 1)
        self.check_refused("( \n ", 2, 2)
        self.check_refused('(feed "\\', 1, 9)

    def test_first_pieces(self):
        for text in ("feed", ")", '"a"', "a", "x(feed", "1", "\\"):
            self.check_refused(text, 1, 1)
            self.check_refused("\n " + text, 2, 2)
        for text in ("fee", "feedx", "gone", "entry", "Feed", '"a"', ")", "(", "1"):
            self.check_refused(f'({text} "a")', 1, 2)
            self.check_refused(f'(\n{text} "a")', 2, 1)
        for text in ("(here)", ")", "feed", "a", "1", "\\", "X"):
            self.check_refused(f"(feed {text}", 1, 7)
        self.check_refused("(feedX", 1, 6)
        self.check_refused("(feed(", 1, 6)

    def test_further_pieces(self):
        for text in ("a", "1", "A", "\\", "-", "feed", "_", "#"):
            self.check_refused(f'(feed "" {text})', 1, 10)
            self.check_refused(f'(feed "" (x {text}))', 1, 13)
            self.check_refused(f'(feed "")\n{text}', 2, 1)
        for text in ("A", "1", ")", "(", '"a"', "\\"):
            self.check_refused(f'(feed "" ({text}', 1, 11)
        self.check_refused('(feed "") (feed "")', 1, 11)
        self.check_refused('(feed ""))', 1, 10)
        self.check_refused('(feed "") "a"', 1, 11)

    def test_lengths_of_words(self):
        self.assertEqual(read_nest('(feed "" (abcdefghijkl))'), (Page(), ((1, 10, "unknown"),)))
        self.check_refused('(feed "" (abcdefghijklm))', 1, 11)
        self.check_refused('(feed "" (' + "a" * 5000, 1, 11)

    def test_strings(self):
        for text, read in (('\\"', '"'), ("\\\\", "\\"), ("a\\\\n", "a\\n"), ("(a) x", "(a) x"), ("\\\\\\\\", "\\\\")):
            self.assertEqual(read_nest(f'(feed "{text}")'), (Page(headline=read), ()))
        for sign in "abmotN'/ 0()":
            self.check_refused(f'(feed "a\\{sign}")', 1, 10)
        self.check_refused('(feed "a\nb")', 1, 9)
        self.check_refused('(feed "a\\\nb")', 1, 10)
        self.check_refused('(feed\n"a\\xb\\y")', 2, 4)
        self.check_refused('(feed "a\\n\\"b', 1, 14)

    def test_blanks(self):
        page = Page(headline="a", entries=(Entry(told="b"),))
        for text in ('(feed"a"(entry(told"b")))', '\n (\n feed \n"a" \n ( entry\n( told "b" )\n ) \n)\n\n ', '(feed "a" (entry (told "b")))'):
            self.assertEqual(read_nest(text), (page, ()))

    def test_open_lists(self):
        eight = '(feed ""' + "(x" * 7
        self.assertEqual(read_nest(eight + ")" * 8), (Page(), ((1, 9, "unknown"),)))
        self.assertEqual(read_nest('(feed ""' + ("(x" * 7 + ")" * 7) * 20 + ")")[1][1:3], ((1, 30, "again"), (1, 51, "again")))
        self.check_refused(eight + "(x" + ")" * 9, 1, 23)
        self.check_refused(eight + "\n (", 2, 2)
        self.check_refused(eight + "(x" * 3000, 1, 23)
        self.check_refused("(" * 3000, 1, 2)
        self.check_refused('(feed "" ' + "(a " * 3000 + ")" * 3001, 1, 10 + 3 * 7)

    def test_random_texts(self):
        rng = random.Random(6)
        pieces = ["(", "(", ")", ")", "feed", "entry", "x", '"', '"a"', '""', "\\", "\n", " ", "\\n", "a", "here", "A", "(x)", "(x"]
        for number in range(20000):
            text = "".join(rng.choice(pieces) for _ in range(rng.choice((1, 3, 8, 20))))
            if number > 2000:
                text = rng.choice(('(feed ""', '( feed\n"a')) + text
            if number > 8000:
                text = text + rng.choice((")", '")', "))"))
            at = refused_at(text)
            if at is None:
                read_nest(text)
            else:
                self.check_refused(text, *place(text, at))


class ReadTest(unittest.TestCase):
    def check(self, inner, page, *rows, base="//h/f", headline='""'):
        text = f"(feed {headline}\n{inner})"
        self.assertEqual(read_nest(text, base), (page, tuple((line + 1, column, word) for line, column, word in rows)), text)

    def entry(self, inner, entry, *rows, base="//h/f"):
        self.check(f"(entry\n{inner})", Page(entries=() if entry is None else (entry,)), *rows, base=base)

    def notice(self, inner, notice, *rows, base="//h/f"):
        self.check(f"(gone\n{inner})", Page(notices=() if notice is None else (notice,)), *rows, base=base)

    def test_what_is_written_is_read(self):
        for page in some_pages(7, 300) + [FULL, Page()]:
            for base in BASES:
                self.assertEqual(read_nest(write_nest(page, base), base), (page, ()))
        self.assertEqual(read_nest(text=write_nest(FULL, BASES[1]), base=BASES[1])[0], FULL)

    def test_sixty_are_read(self):
        page = Page(entries=tuple(Entry(told=str(n)) for n in range(60)), notices=tuple(("told", str(n), None) for n in range(60)))
        self.assertEqual(read_nest(write_nest(page)), (page, ()))

    def test_lists_in_any_order(self):
        page = Page(here="//h/a", older="//h/b", is_archive=True, entries=(Entry(told="a", link="//h/l"), Entry(told="b")),
                    notices=(("told", "c", DATES[1]), ("told", "d", None)))
        parts = ['(here "a")', '(older "b")', "(archive)", '(entry (link "l") (told "a"))', '(gone (at "1/001@00:00:00Z") (told "c"))',
                 '(entry (told "b"))', '(gone (told "d"))']
        for order in ((0, 1, 2, 3, 4, 5, 6), (3, 4, 5, 6, 0, 1, 2), (4, 3, 2, 1, 0, 6, 5), (2, 4, 6, 1, 3, 5, 0)):
            self.check("".join(parts[n] for n in order), page)

    def test_again(self):
        self.check('(here "a b")(here "c")', Page(), (1, 1, "address"), (1, 13, "again"))
        self.check('(older "a")(archive)(archive)\n(older "a" "b")', Page(older="//h/a", is_archive=True), (1, 21, "again"), (2, 1, "again"))
        self.check('(archive "a")(archive)', Page(), (1, 1, "value"), (1, 14, "again"))
        self.check("(x)(x (x))(y)(x)", Page(), (1, 1, "unknown"), (1, 4, "again"), (1, 11, "unknown"), (1, 14, "again"))
        self.entry('(told "a")(told "b")(link)(link "c")', Entry(told="a"), (2, 11, "again"), (2, 21, "value"), (2, 27, "again"))
        self.entry('(told "a")(entry (x))(entry)(feed)(feed)(gone)(gone "a")', Entry(told="a"), (2, 11, "unknown"), (2, 22, "unknown"),
                   (2, 29, "unknown"), (2, 35, "again"), (2, 41, "unknown"), (2, 47, "unknown"))
        self.notice('(told "a")(at "1")(at "1/001@00:00:00Z")', ("told", "a", None), (2, 11, "date"), (2, 19, "again"))

    def test_unknown(self):
        for word in ("feed", "told", "link", "headline", "at", "text", "x", "published"):
            self.check(f'({word} "b" (x (y)) "c" "c")', Page(), (1, 1, "unknown"))
        for word in ("feed", "here", "older", "archive", "entry", "gone", "at", "x"):
            self.entry(f'(told "a")({word} "b" (x (y)))', Entry(told="a"), (2, 11, "unknown"))
        for word in ("feed", "here", "archive", "entry", "gone", "text", "headline", "published", "changed", "x"):
            self.notice(f'(told "a")({word} "b" (x (y)))', ("told", "a", None), (2, 11, "unknown"))
        self.check('"a"\n"b" (here "c")', Page(here="//h/c"), (1, 1, "unknown"), (2, 1, "unknown"))
        self.entry('"a" (told "a")\n"b"', Entry(told="a"), (2, 1, "unknown"), (3, 1, "unknown"))
        self.notice('"a" (told "a")\n"b"', ("told", "a", None), (2, 1, "unknown"), (3, 1, "unknown"))

    def test_value(self):
        for word in ("here", "older"):
            for inner in ("", ' "a" "b"', " (x)", ' "a" (x)', ' (x) "a"', ' (told "a")'):
                self.check(f"({word}{inner})", Page(), (1, 1, "value"))
        for word in ("link", "headline", "published", "changed", "text"):
            for inner in ("", ' "a" "b"', " (x)", ' "a" (x)', ' (x) "a"'):
                self.entry(f'(told "a")({word}{inner})', Entry(told="a"), (2, 11, "value"))
        for inner in (' ""', ' "yes"', " (x)", ' "a" "b"', " (archive)"):
            self.check(f"(archive{inner})", Page(), (1, 1, "value"))
        self.notice('(told "a")(at)', ("told", "a", None), (2, 11, "value"))

    def test_value_of_a_notice(self):
        for inner in ("", '(at "1/001@00:00:00Z")', '(told "a")(link "b")', '(link "b")(told "a")(x)(at "b")', '"told" "a"',
                      '(told "a")(told "a")', '(told)(link)', '"a" (x (told "a"))', '(told "a" (link "b"))(link "a")'):
            self.notice(inner, None, (1, 1, "value"))
        self.notice('(told)(at "b")', None, (2, 1, "value"), (2, 7, "date"))
        self.notice('(told "")(at "b")(x)', None, (2, 1, "unfit"), (2, 10, "date"), (2, 18, "unknown"))
        self.notice('(at "b")(link "a b")"c"', None, (2, 1, "date"), (2, 9, "address"), (2, 21, "unknown"))

    def test_unfit(self):
        for text in ("x" * 81, " a", "a ", " ", "\\n", "a\\nb"):
            self.check("", Page(), (0, 7, "unfit"), headline=f'"{text}"')
            self.check('(here "a")', Page(here="//h/a"), (0, 9, "unfit"), headline=f'  "{text}"')
            self.entry(f'(told "a")(headline "{text}")', Entry(told="a"), (2, 11, "unfit"))
        self.check("", Page(headline="x" * 80), headline='"' + "x" * 80 + '"')
        for text in ("", "x" * 41, " a", "a ", "a\\nb"):
            self.entry(f'(told "{text}")(headline "b")', Entry(headline="b"), (2, 1, "unfit"))
            self.notice(f'(told "{text}")', None, (2, 1, "unfit"))
        self.entry('(told "' + "x" * 40 + '")', Entry(told="x" * 40))
        for text in (" a", "a \\nb", " ", "x" * 2001, "\\n" * 2001):
            self.entry(f'(told "a")(text "{text}")', Entry(told="a"), (2, 11, "unfit"))
        self.entry('(text "' + "\\n" * 2000 + '")', Entry(text="\n" * 2000))
        self.entry('(text "a\\n ")(headline "")', Entry(text="a\n "))

    def test_address(self):
        self.check('(here "")(older "../x")', Page(here="//h/f", older="//h/x"))
        self.check('(here "a b")\n(older "///")', Page(), (1, 1, "address"), (2, 1, "address"))
        self.check('(here "")(older "/a")', Page(), (1, 1, "address"), (1, 10, "address"), base=None)
        self.check('(here "//H")(older "//g/b/../a#x")', Page(here="//h/", older="//g/a"), base=None)
        self.entry('(told "a")(link " b")', Entry(told="a"), (2, 11, "address"))
        self.entry('(link "")', Entry(link="//h/f"))
        self.notice('(link "#a")', ("link", "//h/f", None))
        self.notice('(link "a\\n")', None, (2, 1, "address"))
        self.notice('(link "")', None, (2, 1, "address"), base=None)

    def test_dates(self):
        for word in ("published", "changed"):
            self.entry(f'(told "a")({word} "123/093@06:07:08+05:30")', Entry(**{"told": "a", word: DATES[0]}))
            for text in ("", " 1/001@00:00:00Z", "Ar 1 Ash 1 00:00:00 Z", "1/001@00:00:00z", "1/366@00:00:00Z"):
                self.entry(f'(told "a")({word} "{text}")', Entry(told="a"), (2, 11, "date"))
        self.notice('(told "a")(at "1/001@00:00:00Z")', ("told", "a", DATES[1]))

    def test_empty(self):
        self.check("(entry)", Page(), (1, 1, "empty"))
        self.entry('(published "1/001@00:00:00Z")(headline "")(text "")', None, (1, 1, "empty"))
        self.entry('(told "")(link "a b")"x"(y)', None, (1, 1, "empty"), (2, 1, "unfit"), (2, 10, "address"), (2, 22, "unknown"),
                   (2, 25, "unknown"))

    def test_many(self):
        entries = "".join(f'(entry (told "{n}"))\n' for n in range(60))
        page = Page(entries=tuple(Entry(told=str(n)) for n in range(60)))
        self.check(entries + '(entry)(entry (told "") (x))(gone (told "a"))', Page(
            entries=page.entries, notices=(("told", "a", None),)), (61, 1, "many"), (61, 8, "many"))
        self.check("(entry)" + entries + "(x)", page, (1, 1, "empty"), (61, 1, "unknown"))
        notices = "".join(f'(gone (told "{n}"))\n' for n in range(60))
        page = Page(notices=tuple(("told", str(n), None) for n in range(60)))
        self.check(notices + '(gone)(gone (told "a") (at "x") (x))(here "a")', Page(
            here="//h/a", notices=page.notices), (61, 1, "many"), (61, 7, "many"))
        self.check("(gone)(gone (told \"\"))" + notices, page, (1, 1, "value"), (1, 13, "unfit"))

    def test_random_pages(self):
        rng = random.Random(8)
        for _ in range(3000):
            text = '(feed "a"' + "".join(some_list(rng) for _ in range(rng.choice((1, 3, 6)))) + ")"
            for base in (None, "//h/a/b"):
                page, remarks = read_nest(text, base)
                places = [(line, column) for line, column, _ in remarks]
                self.assertEqual(places, sorted(set(places)))
                for line, column, word in remarks:
                    sign = text.split("\n")[line - 1][column - 1]
                    self.assertIn(sign, '("' if word == "unknown" else "(", text)
                for other in (base, "//h/a", None):
                    self.assertEqual(read_nest(write_nest(page, other), other), (page, ()))


if __name__ == "__main__":
    unittest.main()
