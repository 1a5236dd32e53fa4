"""Both formats together: promise [33], and read_feed."""

import unittest

from feedreader.errors import BadAddress, BadText
from feedreader.formats import read_feed
from feedreader.nest import read_nest, write_nest
from feedreader.pages import Page
from feedreader.rows import read_rows, write_rows
from tests.objects import NO_STRINGS
from tests.samples import FULL, some_pages
from tests.test_rows import BASES, NO_BASES

WRITERS = (write_rows, write_nest)


class FormatsTest(unittest.TestCase):
    def test_the_format_shows_from_the_text(self):
        for text in ("", "(", " (", "\n\n (feed", "(feed", "( ", '\n(feed "a")', '  (feed "a") x', "entry: (", "x (feed", ")", '"(', " a",
                     "feed: a\n\n(x", "\\(", "gone: told ("):
            for base in BASES:
                read = read_nest if text.strip(" \n").startswith("(") else read_rows
                try:
                    told = read(text, base)
                except BadText as error:
                    with self.assertRaises(BadText) as caught:
                        read_feed(text, base)
                    self.assertEqual((caught.exception.line, caught.exception.column), (error.line, error.column))
                else:
                    self.assertEqual(read_feed(text, base), told)

    def test_references_have_the_base(self):
        self.assertEqual(read_feed('(feed "" (here "b"))', "//h/a")[0].here, "//h/b")
        self.assertEqual(read_feed(text="feed:\nhere: b", base="//h/a")[0].here, "//h/b")
        self.assertEqual(read_feed("feed:\nhere: b"), (Page(), ((2, 1, "address"),)))

    def test_errors(self):
        for base in NO_BASES:
            for text in ("", "(", '(feed "")', None, 5):
                with self.assertRaises(BadAddress) as caught:
                    read_feed(text, base)
                self.assertIs(caught.exception.given, base)
        for text in NO_STRINGS:
            for base in BASES:
                with self.assertRaises(BadText) as caught:
                    read_feed(text, base)
                self.assertEqual((caught.exception.line, caught.exception.column), (0, 0))

    def test_pages_pass_unchanged(self):
        for page in some_pages(9, 100) + [FULL, Page()]:
            read = page
            for base in BASES:
                for write in WRITERS:
                    read, remarks = read_feed(write(read, base), base)
                    self.assertEqual((read, remarks), (page, ()))


if __name__ == "__main__":
    unittest.main()
