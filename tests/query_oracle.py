"""Queries once more, told straight from the words of the document, and random ones."""

import re

from feedreader.pages import Entry
from tests.library_oracle import FOLDERS
from tests.shelf_oracle import ADDRESSES

WORDS = ("H", "h", "t", "U", "v", "none")


def fits(query, row):
    """Whether a row fits a query."""
    entry, time, reading, is_starred, folder, feed = row
    word, *rest = query
    return {
        "not": lambda: not fits(rest[0], row), "and": lambda: all(fits(part, row) for part in rest),
        "or": lambda: any(fits(part, row) for part in rest), "starred": lambda: is_starred,
        "word": lambda: rest[0].lower() in [run.lower() for text in (entry.headline, entry.text) for run in re.findall("[a-zA-Z]+", text)],
        "reading": lambda: reading == rest[0], "folder": lambda: folder == rest[0], "feed": lambda: rest[0] in feed,
        "since": lambda: time >= rest[0], "before": lambda: time < rest[0],
    }[word]()


def some_query(rng, levels=3):
    """A random query of not too many parts."""
    word = rng.choice(("word", "reading", "starred", "folder", "feed", "since", "before") + ("not", "and", "or") * 2)
    if levels == 1 and word in ("not", "and", "or"):
        word = "starred"
    values = {
        "word": WORDS, "reading": ("unread", "newer", "read"), "folder": FOLDERS, "feed": ADDRESSES, "since": range(60), "before": range(60),
    }
    if word in values:
        return (word, rng.choice(values[word]))
    if word == "starred":
        return (word,)
    return (word,) + tuple(some_query(rng, levels - 1) for _ in range(1 if word == "not" else rng.randrange(4)))


def rows_of_words(*texts):
    """Entries with such headlines and texts."""
    return [Entry(headline=headline, text=text) for headline, text in texts]
