"""Queries, which tell rows of libraries from others."""

from feedreader.addresses import is_address
from feedreader.dates import is_moment
from feedreader.errors import BadQuery
from feedreader.kinds import consists_of
from feedreader.notes import is_folder

MOST_PARTS = 30
MOST_LEVELS = 8
LONGEST_WORD = 20
LETTERS = "abcdefghijklmnopqrstuvwxyzABCDEFGHIJKLMNOPQRSTUVWXYZ"
READINGS = ("unread", "newer", "read")
# The words of queries that have parts.
JOINTS = ("not", "and", "or")


def is_query(value):
    """Whether it is a query."""
    return not _is_too_large(value) and _first_wrong(value, ()) is None


def check_query(query):
    """Refuses what is no query."""
    if _is_too_large(query):
        raise BadQuery(())
    path = _first_wrong(query, ())
    if path is not None:
        raise BadQuery(path)


def search(library, query):
    """The tuple of the rows of a library that fit a query."""
    check_query(query)
    return tuple([row for row in library.rows() if _fits(query, row)])


def _parts(value):
    """The parts of what may be a query."""
    return value[1:] if isinstance(value, tuple) and value and value[0] in JOINTS else ()


def _is_too_large(value):
    """Whether there are too many parts or levels."""
    count = 0
    waiting = [(value, 1)]
    while waiting:
        part, level = waiting.pop()
        count += 1
        # A part can stand in many places, so all parts are not gone through without need.
        if count > MOST_PARTS or level > MOST_LEVELS:
            return True
        waiting.extend([(inner, level + 1) for inner in _parts(part)])
    return False


def _first_wrong(value, path):
    """The path of the first part that is wrong by itself in what stands at a path, None if all are right."""
    if not _is_right(value):
        return path
    for place, part in enumerate(_parts(value), start=1):
        wrong = _first_wrong(part, path + (place,))
        if wrong is not None:
            return wrong
    return None


def _is_right(value):
    """Whether a part of a query is right by itself."""
    if not isinstance(value, tuple) or not value:
        return False
    if value[0] in ("and", "or"):
        return True
    if value[0] == "starred":
        return len(value) == 1
    return len(value) == 2 and (value[0] == "not" or _is_test(value[0], value[1]))


def _is_test(word, value):
    """Whether they are a query that tests rows for a value."""
    if word == "word":
        return isinstance(value, str) and 1 <= len(value) <= LONGEST_WORD and consists_of(value, LETTERS)
    if word == "reading":
        return value in READINGS
    if word == "folder":
        return is_folder(value)
    if word == "feed":
        return is_address(value)
    return word in ("since", "before") and is_moment(value)


def _fits(query, row):
    """Whether a row fits a query."""
    word = query[0]
    if word == "not":
        return not _fits(query[1], row)
    if word == "and":
        return all([_fits(part, row) for part in query[1:]])
    if word == "or":
        return any([_fits(part, row) for part in query[1:]])
    return _passes(query, row)


def _passes(query, row):
    """Whether a row fits a query without parts."""
    entry, time, reading, is_starred, folder, feed = row
    if query[0] == "starred":
        return is_starred
    word, value = query
    if word == "word":
        return value.lower() in _words(entry.headline) + _words(entry.text)
    if word == "reading":
        return reading == value
    if word == "folder":
        return folder == value
    if word == "feed":
        return value in feed
    return time >= value if word == "since" else time < value


def _words(text):
    """The longest runs of letters in a text, in small letters."""
    return "".join([sign if sign in LETTERS else " " for sign in text]).lower().split()
