"""Pages as texts in nest: one line of lists in parentheses."""

from feedreader.addresses import check_base
from feedreader.dates import read_short, short_text
from feedreader.errors import BadText
from feedreader.lists import line_places, quoted, read_list
from feedreader.parts import Draft, entry_parts, notice_parts, page_parts, read_part

FEED_WORDS = ("here", "older", "archive", "entry", "gone")
ENTRY_WORDS = ("told", "link", "headline", "published", "changed", "text")
NOTICE_WORDS = ("told", "link", "at")
DATE_WORDS = ("published", "changed", "at")
# Lists of these words may stand several times.
MANY_WORDS = ("entry", "gone")
SIGN_WORDS = ("told", "link")


def write_nest(page, base=None):
    """The text of a page in nest, with references from a base (None: with addresses)."""
    check_base(base)
    pieces = ["feed", quoted(page.headline)]
    for word, text in page_parts(page, base):
        pieces.append("(archive)" if word == "archive" else _list_of(word, text))
    for entry in page.entries:
        pieces.append(_list_of_lists("entry", entry_parts(entry, base, short_text)))
    for notice in page.notices:
        pieces.append(_list_of_lists("gone", notice_parts(notice, base, short_text)))
    return "(" + " ".join(pieces) + ")"


def read_nest(text, base=None):
    """The page that a text in nest tells, and the remarks (line, column, word) on it."""
    check_base(base)
    if not isinstance(text, str):
        raise BadText(0, 0)
    _, _, parts = read_list(text, "feed")
    draft = Draft()
    place, _, headline = parts[0]
    values = {"headline": _text_value(draft, place, "headline", headline, base)}
    for place, word, inner in _wanted(draft, parts[1:], FEED_WORDS):
        if word == "archive":
            values["is_archive"] = not inner
            if inner:
                draft.remark(place, "value")
        elif word not in MANY_WORDS:
            values[word] = _value(draft, place, word, inner, base)
        elif not draft.has_room(word):
            draft.remark(place, "many")
        elif word == "entry":
            draft.take_entry(place, _values(draft, inner, ENTRY_WORDS, base))
        else:
            _read_notice(draft, place, inner, base)
    draft.take_about(_there(values))
    return (draft.page(), line_places(text, draft.all_remarks()))


def _list_of(word, text):
    """The text of a list with one string."""
    return "(" + word + " " + quoted(text) + ")"


def _list_of_lists(word, parts):
    """The text of a list of such lists."""
    return "(" + " ".join([word] + [_list_of(name, text) for name, text in parts]) + ")"


def _wanted(draft, parts, words):
    """The lists among the parts that have one of these words, each once, but for entries and notices."""
    seen = set()
    found = []
    for part in parts:
        place, word, _ = part
        if word in seen and word not in MANY_WORDS:
            draft.remark(place, "again")
        elif word in words:
            found.append(part)
        else:
            draft.remark(place, "unknown")
        # Strings have no word, and none of them is wanted.
        if word is not None:
            seen.add(word)
    return found


def _there(values):
    """The values that are not None."""
    return {word: value for word, value in values.items() if value is not None}


def _values(draft, parts, words, base):
    """What the lists among the parts tell that have these words, a dict."""
    values = {word: _value(draft, place, word, inner, base) for place, word, inner in _wanted(draft, parts, words)}
    return _there(values)


def _value(draft, place, word, inner, base):
    """What a list at this place tells that wants one string, None if nothing."""
    if len(inner) != 1 or inner[0][1] is not None:
        draft.remark(place, "value")
        return None
    return _text_value(draft, place, word, inner[0][2], base)


def _text_value(draft, place, word, text, base):
    """What a string tells as the part of this word, None if nothing; a remark on it has this place."""
    if word in DATE_WORDS:
        value = read_short(text)
        remark = "date" if value is None else None
    else:
        value, remark = read_part(word, text, base)
    if remark is not None:
        draft.remark(place, remark)
    return value


def _read_notice(draft, place, parts, base):
    """Reads a list of a notice."""
    signs = [word for _, word, _ in parts if word in SIGN_WORDS]
    if len(signs) != 1:
        draft.remark(place, "value")
        return
    values = _values(draft, parts, NOTICE_WORDS, base)
    if signs[0] in values:
        draft.take_notice(signs[0], values[signs[0]], values.get("at"))
