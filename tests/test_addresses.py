"""Addresses, references and the shortest ones: promises [15], [16] and [17]."""

import itertools
import re
import unittest

from feedreader.addresses import is_address, resolve, shortest
from feedreader.errors import BadAddress
from tests.objects import NO_STRINGS, ODD_OBJECTS

LABEL = "a1b2c3d4e5"
SEGMENT = "Aa0-_.Zz9...........x"[:20]
NO_ADDRESSES = ODD_OBJECTS + ("//", "//h", "/a/b", "//H/", "//h/..", "//h/a/./b", "//h/a b", "h/a", "///")


def long_address(length):
    """An address, as far as its length lets it be one, with so many characters."""
    text = "//h" + "/abcdefghijklmnopqrst" * 10
    return text[:length - 1] + "u" if text[length - 1] == "/" else text[:length]


def led(base, text):
    """The steps of promise [16] once more, by patterns."""
    text = re.sub("#.*", "", text, flags=re.S)
    host, path = re.fullmatch("//([^/]*)(.*)", base, re.S).groups() if base else (None, None)
    if text.startswith("//"):
        host, path = re.fullmatch("//([^/]*)(.*)", text, re.S).groups()
        host, path = host.lower(), path or "/"
    elif base is None:
        return None
    elif text.startswith("/"):
        path = text
    elif text:
        path = path[:path.rindex("/") + 1] + text
    # Segments of one dot take nothing away, so they may go first; then two dots go from the left.
    for dots in (r"/\.(?=/|\Z)", r"(?:/[^/]*)??/\.\.(?=/|\Z)"):
        while found := re.search(dots, path):
            path = path[:found.start()] + (path[found.end():] or "/")
    host_form = r"[a-z0-9]{1,10}(\.[a-z0-9]{1,10}){0,2}"
    path_form = r"(/(?!\.{1,2}(?:/|\Z))[a-zA-Z0-9_.-]{0,20})+"
    address = f"//{host}{path}"
    return address if len(address) <= 120 and re.fullmatch(f"//{host_form}{path_form}", address) else None


class AddressTest(unittest.TestCase):
    def test_addresses(self):
        for value in ("//h/", "//h/a", "//h/a/b", "//0/", "//a.b.c/", "//h//", "//h///a//", "//h/.../..a", "//h/a.", "//h/-",
                      "//h/_/Z9", "//9z.z9/Aa.b-c_d", "//h/.a", "//h/..."):
            self.assertIs(is_address(value), True, value)

    def test_no_addresses(self):
        for value in ("xxh/a", "/xh/a", "x/h/a", "ahh/", "  h/", "..h/a"):
            self.assertIs(is_address(value), False, value)
        for value in ("", "/", "//", "///", "//h", "h/", "/h/", "//H/", "//h.H/", "//.h/", "//h./", "//h..h/", "//./",
                      "//a.b.c.d/", "//h-h/", "//h_h/", "//h/.", "//h/..", "//h/./", "//h/../a", "//h/a/.", "//h/a/..",
                      "//h/a b", "//h/ ", " //h/", "//h/ a", "//h/a\n", "//h/\n", "\n//h/", "//h\n/", "//h /", "//h/a#b",
                      "//h/a:b", "//h:1/", "//h/a?b", "//h/~", "//h/a%b", "//h/\u00e4", "//\u00e4/", "//h/\u0661", "x//h/"):
            self.assertIs(is_address(value), False, value)

    def test_other_objects(self):
        for value in NO_STRINGS + (["//h/a"], ("//h/a",), b"//h/a", {"//h/a": 1}):
            self.assertIs(is_address(value), False, value)

    def test_lengths_of_labels(self):
        self.assertEqual(len(LABEL), 10)
        for labels in ([LABEL], [LABEL] * 2, [LABEL] * 3, ["a", LABEL], [LABEL, "a", "b"]):
            self.assertIs(is_address("//" + ".".join(labels) + "/"), True)
            for place in range(len(labels)):
                for wrong in (LABEL + "f", "", "A"):
                    changed = labels[:place] + [wrong] + labels[place + 1:]
                    self.assertIs(is_address("//" + ".".join(changed) + "/"), False, changed)
        self.assertIs(is_address("//" + ".".join([LABEL] * 4) + "/"), False)

    def test_lengths_of_segments(self):
        self.assertEqual(len(SEGMENT), 20)
        for form in ("//h/{}", "//h/{}/", "//h/a/{}", "//h//{}/b"):
            for length in (0, 1, 19, 20):
                self.assertIs(is_address(form.format(SEGMENT[:length])), True, (form, length))
            self.assertIs(is_address(form.format(SEGMENT + "x")), False)
            for wrong in (".", "..", "a b", "a#"):
                self.assertIs(is_address(form.format(wrong)), False, (form, wrong))

    def test_length_of_the_whole(self):
        for length in (118, 119, 120):
            self.assertEqual(len(long_address(length)), length)
            self.assertIs(is_address(long_address(length)), True)
        for text in (long_address(121), long_address(122), long_address(120) + "/", "//h" + "/" * 118):
            self.assertIs(is_address(text), False)
        self.assertIs(is_address("//h" + "/" * 117), True)

    def test_each_character(self):
        for code in range(256):
            sign = chr(code)
            small = sign in "abcdefghijklmnopqrstuvwxyz0123456789"
            self.assertIs(is_address(f"//h{sign}h/"), small or sign in "./", sign)
            self.assertIs(is_address(f"//h/a{sign}b"), small or sign in "ABCDEFGHIJKLMNOPQRSTUVWXYZ-_./", sign)


class ResolveTest(unittest.TestCase):
    def check(self, base, *rows):
        for text, address in rows:
            self.assertEqual(resolve(base, text), address, (base, text))
            self.assertEqual(led(base, text), address, (base, text))

    def test_examples(self):
        self.check("//h/a/b", ("c", "//h/a/c"), (".", "//h/a/"), ("../x/", "//h/x/"), ("//B.c#d", "//b.c/"))
        self.check("//h/a/b", ("#d", "//h/a/b"), ("/.//x", "//h//x"), ("///x", None))

    def test_number_sign(self):
        self.check("//h/a/b", ("", "//h/a/b"), ("#", "//h/a/b"), ("##", "//h/a/b"), ("c#/../d", "//h/a/c"), ("#//x/", "//h/a/b"))
        self.check("//h/a/b", ("/#x", "//h/"), ("//x#/y", "//x/"), ("//x/#", "//x/"), ("//#", None), ("..#", "//h/"))
        self.check("//h/a/b", ("c#d e:\n", "//h/a/c"), ("c #d", None), ("..#\n\n", "//h/"))

    def test_other_hosts(self):
        self.check("//h/a/b", ("//x", "//x/"), ("//x/", "//x/"), ("//x//", "//x//"), ("//X.Y.Z/Q", "//x.y.z/Q"))
        self.check("//h/a/b", ("//x/../y", "//x/y"), ("//x/.", "//x/"), ("//x/a/..", "//x/"), ("//H", "//h/"))
        self.check("//h/a/b", ("//", None), ("///", None), ("////", None), ("//.", None), ("//..", None), ("//x.", None))
        self.check("//h/a/b", ("//x y/", None), ("//x_y", None), ("//" + LABEL + "F", None), ("//a.b.c.d", None))

    def test_paths(self):
        self.check("//h/a/b", ("/", "//h/"), ("/c", "//h/c"), ("/c/", "//h/c/"), ("/c//", "//h/c//"), ("/C/d", "//h/C/d"))
        self.check("//h/a/b", ("c/d", "//h/a/c/d"), ("c/", "//h/a/c/"), ("c//", "//h/a/c//"), ("...", "//h/a/..."))
        self.check("//h/a/", ("", "//h/a/"), ("c", "//h/a/c"), ("..", "//h/"), ("../..", "//h/"))
        self.check("//h/", ("", "//h/"), ("c", "//h/c"), (".", "//h/"), ("..", "//h/"), ("../c", "//h/c"))

    def test_dots(self):
        self.check("//h/a/b", ("./", "//h/a/"), ("./c", "//h/a/c"), ("..", "//h/"), ("../", "//h/"), ("../..", "//h/"))
        self.check("//h/a/b", ("../../..", "//h/"), ("../../../c", "//h/c"), ("c/..", "//h/a/"), ("c/../d", "//h/a/d"))
        self.check("//h/a/b", ("c/.", "//h/a/c/"), ("c/./d", "//h/a/c/d"), ("/./c", "//h/c"), ("/../c", "//h/c"))
        self.check("//h/a/b", ("/c/d/../../e", "//h/e"), ("/c/d/../../../e/..", "//h/"), (".c", "//h/a/.c"), ("..c", "//h/a/..c"))
        self.check("//h/a/b", ("c/d/../..", "//h/a/"), ("./..", "//h/"), ("../.", "//h/"), ("/..", "//h/"), ("/.", "//h/"))

    def test_empty_segments(self):
        self.check("//h//a", ("", "//h//a"), ("b", "//h//b"), (".", "//h//"), ("..", "//h/"), ("../b", "//h/b"))
        self.check("//h/a//", ("..", "//h/a/"), ("../..", "//h/"), (".", "//h/a//"), ("b", "//h/a//b"))
        self.check("//h/a/b", (".//", "//h/a//"), (".//c", "//h/a//c"), ("..//c", "//h//c"), ("/c//..", "//h/c/"))
        self.check("//h/a/b", ("/c//../d", "//h/c/d"), ("/.//", "//h//"), ("/..//", "//h//"), ("/.//..", "//h/"))

    def test_nowhere(self):
        self.check("//h/a/b", ("c d", None), (" ", None), ("c\n", None), ("a:b", None), ("/a?b", None), ("a" * 21, None))
        self.check("//h/a/b", ("c d/../e", "//h/a/e"), ("a" * 21 + "/..", "//h/a/"))
        base = long_address(120)
        self.check(base, ("", base), ("abc", base[:base.rindex("/") + 1] + "abc"), ("abcdefghijklmnopqrstuv", None))
        self.check(base, ("a/" * 20, None), ("a/" * 20 + "../" * 19, base[:base.rindex("/") + 1] + "a/"))
        self.check("//h/", ("a/" * 2000 + "../" * 2000, "//h/"))

    def test_without_a_base(self):
        self.check(None, ("//h", "//h/"), ("//H/a/../b#c", "//h/b"), ("//h/a/b", "//h/a/b"), ("///a", None), ("//", None))
        self.check(None, ("", None), ("#", None), (".", None), ("/", None), ("/a", None), ("a", None), ("#//h/", None))

    def test_all_short_references(self):
        for base in ("//h/", "//h/a", "//h/a/", "//h//", "//h/a//b", "//h//a/", None):
            for length in range(6):
                for signs in itertools.product("/.aB#", repeat=length):
                    text = "".join(signs)
                    self.assertEqual(resolve(base, text), led(base, text), (base, text))

    def test_no_string(self):
        for base in ("//h/a/b", None):
            for value in NO_STRINGS:
                self.assertIsNone(resolve(base, value))

    def test_no_base(self):
        for value in NO_ADDRESSES:
            for text in ("//h/", "a", "", None, 5):
                if value is not None:
                    with self.assertRaises(BadAddress) as caught:
                        resolve(value, text)
                    self.assertIs(caught.exception.given, value)

    def test_names_of_parameters(self):
        self.assertEqual(resolve(text="c", base="//h/a"), "//h/c")
        self.assertEqual(shortest(address="//h/b", base="//h/a"), "b")
        self.assertIs(is_address(value="//h/a"), True)


class ShortestTest(unittest.TestCase):
    def check(self, base, *rows):
        for address, text in rows:
            self.assertEqual(shortest(base, address), text, (base, address))
            self.assertEqual(resolve(base, text), address)

    def test_same_host(self):
        self.check("//h/a/b", ("//h/a/b", ""), ("//h/a/c", "c"), ("//h/a/", "."), ("//h/", "/"), ("//h/c", "/c"))
        self.check("//h/a/b", ("//h/a/b/", "b/"), ("//h/a/b/c", "b/c"), ("//h/c/d", "/c/d"), ("//h/a", "/a"))
        self.check("//h/aa/bb/c", ("//h/aa/bb/", "."), ("//h/aa/", ".."), ("//h/aa/d", "../d"), ("//h/d", "/d"))
        self.check("//h/a/b/c", ("//h/a/", ".."), ("//h/a/d", "../d"), ("//h/a/d/e", "../d/e"), ("//h/", "/"))
        self.check("//h/long/b/c/d", ("//h/long/", "../.."), ("//h/long/x", "../../x"), ("//h/long/b/", ".."))
        self.check("//h/abc/b/c/d", ("//h/abc/", "../.."), ("//h/abc/x", "/abc/x"), ("//h/abc//", "/abc//"))
        self.check("//h/ab/b/c/d", ("//h/ab/", "/ab/"), ("//h/ab/x", "/ab/x"), ("//h/ab/b/x", "../x"))
        self.check("//h/", ("//h/", ""), ("//h/a", "a"), ("//h/a/", "a/"))
        self.check("//h/a", ("//h/", "."), ("//h/b", "b"))

    def test_empty_segments(self):
        self.check("//h/a/b", ("//h/a//", ".//"), ("//h/a//c", ".//c"), ("//h//", "..//"), ("//h//c", "..//c"))
        self.check("//h/a", ("//h//", ".//"), ("//h//c", ".//c"), ("//h///", ".///"))
        self.check("//h/a/b/c", ("//h//", "/.//"), ("//h//d", "/.//d"), ("//h/a//d", "..//d"))
        self.check("//h//a", ("//h/", "/"), ("//h//", "."), ("//h//b", "b"), ("//h///b", ".//b"), ("//h/b", "/b"))

    def test_other_hosts(self):
        self.check("//h/a/b", ("//x/", "//x"), ("//x/a/b", "//x/a/b"), ("//x//", "//x//"), ("//h.h/", "//h.h"))
        self.check("//h/", ("//h2/A/", "//h2/A/"), ("//x.y.z/", "//x.y.z"))

    def test_all_short_references(self):
        segments = ("", "a", "b")
        paths = ["/".join(row) for size in (1, 2, 3) for row in itertools.product(segments, repeat=size)]
        addresses = ["//a/" + path for path in paths]
        texts = ["".join(signs) for size in range(8) for signs in itertools.product("./ab", repeat=size)]
        for base in addresses[:12] + addresses[12::5]:
            found = {}
            # From the shortest to the longest one, those of a length ascending: the first one that leads there counts.
            for text in texts:
                found.setdefault(resolve(base, text), text)
            for address in addresses:
                self.assertEqual(shortest(base, address), found[address], (base, address))
            self.assertEqual(shortest(base, "//b/"), found["//b/"])
            self.assertEqual(shortest(base, "//b/a"), found["//b/a"])
            self.assertEqual(shortest(base, "//b//"), found["//b//"])

    def test_longest_addresses(self):
        one, other = long_address(120), long_address(119) + "Z"
        self.check(one, (one, ""), (other, other[other.rindex("/") + 1:]), ("//h/", "/"), ("//x/", "//x"))
        self.check("//x/", (one, one))

    def test_errors_in_their_order(self):
        for value in NO_ADDRESSES:
            for base, address in ((value, "//h/"), (value, value), (value, "x"), (value, [1])):
                with self.assertRaises(BadAddress) as caught:
                    shortest(base, address)
                self.assertIs(caught.exception.given, base)
            with self.assertRaises(BadAddress) as caught:
                shortest("//h/", value)
            self.assertIs(caught.exception.given, value)


if __name__ == "__main__":
    unittest.main()
