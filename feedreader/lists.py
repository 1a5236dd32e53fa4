"""Lists of words, strings and lists in parentheses, as texts in nest have them."""

from feedreader.errors import BadText

LETTERS = "abcdefghijklmnopqrstuvwxyz"
BLANKS = " \n"
LONGEST_WORD = 12
MOST_OPEN = 8
# What stands for the characters behind a backslash in a string.
ESCAPES = {'"': '"', "\\": "\\", "n": "\n"}


def quoted(text):
    """The string for a text."""
    inner = text.replace("\\", "\\\\").replace('"', '\\"').replace("\n", "\\n")
    return '"' + inner + '"'


def read_list(text, head):
    """The one list of a text, which has the word head and begins with a string.

    A list is a tuple (place, word, parts); its parts are lists and strings, these as (place, None, text). Places
    count from 0 in the text.
    """
    first = None
    opened = []
    at = _behind(text, 0, BLANKS)
    while first is None or opened or at < len(text):
        sign = text[at:at + 1]
        if not _can_stand(sign, first, opened):
            _refuse(text, at)
        begin = at
        if sign == "(":
            word, at = _read_word(text, _behind(text, at + 1, BLANKS), head if first is None else None)
            piece = (begin, word, [])
            if first is None:
                first = piece
            else:
                opened[-1][2].append(piece)
            opened.append(piece)
        elif sign == ")":
            opened.pop()
            at += 1
        else:
            inner, at = _read_string(text, at + 1)
            opened[-1][2].append((begin, None, inner))
        at = _behind(text, at, BLANKS)
    return first


def line_places(text, marks):
    """The tuples (line, column, word), both from 1 on, of pairs (place, word), places ascending from 0 on."""
    rows = []
    line = 1
    line_begin = 0
    last = 0
    for at, word in marks:
        line += text.count("\n", last, at)
        line_begin = max(line_begin, text.rfind("\n", last, at) + 1)
        last = at
        rows.append((line, at - line_begin + 1, word))
    return tuple(rows)


def _can_stand(sign, first, opened):
    """Whether a piece that begins with this sign can stand behind those that were read."""
    if first is None:
        return sign == "("
    if not opened:
        return False
    if not first[2]:
        return sign == '"'
    if sign == "(":
        return len(opened) < MOST_OPEN
    return sign in (")", '"')


def _behind(text, at, signs):
    """The place behind the longest run of these signs from a place on."""
    while at < len(text) and text[at] in signs:
        at += 1
    return at


def _refuse(text, at):
    """Tells that what stands at this place cannot stand there, or that the text ends there too early."""
    line, column, _ = line_places(text, [(at, "")])[0]
    raise BadText(line, column)


def _read_word(text, at, wanted):
    """The word at this place and the place behind it; wanted is the only word that can stand there, None for any."""
    end = _behind(text, at, LETTERS)
    word = text[at:end]
    if not 1 <= len(word) <= LONGEST_WORD or wanted is not None and word != wanted:
        _refuse(text, at)
    return (word, end)


def _read_string(text, at):
    """The text of the string whose quote is ahead of this place, and the place behind the string."""
    signs = []
    while at < len(text) and text[at] != "\n":
        if text[at] == '"':
            return ("".join(signs), at + 1)
        sign = text[at]
        if sign == "\\":
            at += 1
            sign = ESCAPES.get(text[at:at + 1])
        if sign is None:
            break
        signs.append(sign)
        at += 1
    _refuse(text, at)
