"""Pages for tests, among them random ones (from told seeds)."""

import random

from feedreader.pages import Entry, Page

DATES = ((123, 4, 9, 6, 7, 8, 330), (1, 1, 1, 0, 0, 0, 0), (9999, 13, 29, 23, 59, 59, 0), (40, 13, 30, 23, 59, 60, 0),
         (4, 13, 30, 10, 20, 30, -1), (41, 1, 1, 5, 29, 60, 330))
ADDRESSES = ("//h/", "//h/a", "//h/a/b", "//h/a/b/", "//h//", "//g.x/", "//g.x/a/-", "//h/" + "x" * 20)
LINES = ("", "a", "a b", "feed: x", ":", "::", "#", "(", ")", '"', "\\", "\\n", 'a"b\\c', "gone: told a", "link", "~!|", "x" * 80)
TOLDS = tuple(line[:40] for line in LINES if line)
FULL = Page(
    headline="News", here="//h/f", older="//h/f/old", is_archive=True,
    entries=(
        Entry(told="t1", link="//h/x", headline="One", text="a\n\n b \n", published=DATES[0], changed=DATES[1]),
        Entry(headline="Two"), Entry(link="//g/"), Entry(text="\n"),
    ),
    notices=(("told", "t0", None), ("link", "//h/f", DATES[4]), ("told", "x", DATES[0])),
)


def some_text(rng):
    """A text whose first line is tidy."""
    further = ["\n" + rng.choice(("", " ")) + rng.choice(LINES) + rng.choice(("", " ")) for _ in range(rng.choice((0, 0, 1, 3)))]
    return rng.choice(LINES) + "".join(further)


def some_entry(rng):
    """A random entry."""
    while True:
        fields = {
            "told": rng.choice(TOLDS), "link": rng.choice(ADDRESSES), "headline": rng.choice(LINES), "text": some_text(rng),
            "published": rng.choice(DATES), "changed": rng.choice(DATES),
        }
        kept = {word: value for word, value in fields.items() if rng.random() < 0.5}
        if any(kept.get(word) for word in ("told", "link", "headline", "text")):
            return Entry(**kept)


def some_notice(rng):
    """A random notice."""
    sign = rng.choice((("told", rng.choice(TOLDS)), ("link", rng.choice(ADDRESSES))))
    return sign + (rng.choice((None,) + DATES),)


def some_page(rng):
    """A random page."""
    return Page(
        headline=rng.choice(LINES), here=rng.choice((None,) + ADDRESSES), older=rng.choice((None,) + ADDRESSES),
        is_archive=rng.random() < 0.3, entries=tuple(some_entry(rng) for _ in range(rng.choice((0, 1, 2, 5)))),
        notices=tuple(some_notice(rng) for _ in range(rng.choice((0, 0, 1, 3)))),
    )


def some_pages(seed, count):
    """Random pages, the same for the same seed."""
    rng = random.Random(seed)
    return [some_page(rng) for _ in range(count)]
