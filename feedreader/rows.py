"""Pages as texts in rows: blocks of fields."""

from feedreader.addresses import check_base
from feedreader.dates import long_text, read_long
from feedreader.errors import BadText
from feedreader.parts import Draft, entry_parts, notice_parts, page_parts, read_part

# The fields of the blocks, by the word that begins a block.
FIELDS = {
    "feed": ("feed", "here", "older", "archive"),
    "entry": ("entry", "link", "headline", "published", "changed", "text"),
    "gone": ("gone", "at"),
}
DATE_WORDS = ("published", "changed", "at")
# What fields tell whose words are other ones than the names of this in pages and entries.
NAMES = {"feed": "headline", "entry": "told", "archive": "is_archive"}


def write_rows(page, base=None):
    """The text of a page in rows, with references from a base (None: with addresses)."""
    check_base(base)
    blocks = [_block("feed", page.headline, page_parts(page, base))]
    for entry in page.entries:
        parts = [part for part in entry_parts(entry, base, long_text) if part[0] != "told"]
        blocks.append(_block("entry", entry.told or "", parts))
    for notice in page.notices:
        parts = notice_parts(notice, base, long_text)
        sort, word = parts[0]
        blocks.append(_block("gone", sort + " " + word if word else sort, parts[1:]))
    return "\n\n".join(blocks)


def read_rows(text, base=None):
    """The page that a text in rows tells, and the remarks (line, 1, word) on it."""
    check_base(base)
    if not isinstance(text, str):
        raise BadText(0, 0)
    draft = Draft()
    had_feed = False
    for lines in _blocks(text):
        fields, lost = _fields(lines)
        kind = fields[0][1] if fields else ""
        word = _why_left_out(draft, kind, had_feed)
        for line in lost:
            # A block that is left out is remarked by its first field alone, but for what stands ahead of it.
            if word is None or not fields or line < fields[0][0]:
                draft.remark(line, "lost")
        if fields and word is None:
            _read_block(draft, kind, fields, base)
        elif fields:
            draft.remark(fields[0][0], word)
        had_feed = had_feed or kind == "feed"
    return (draft.page(), tuple([(line, 1, word) for line, word in draft.all_remarks()]))


def _block(word, first, parts):
    """The text of a block with this first field and those of the parts."""
    return "\n".join([_field(word, first)] + [_field(word, text) for word, text in parts])


def _field(word, text):
    """The text of a field."""
    first, *others = text.split("\n")
    head = word + ": " + first if first else word + ":"
    return "\n ".join([head] + others)


def _blocks(text):
    """The blocks of a text, each a list of its lines with their numbers."""
    blocks = [[]]
    for number, line in enumerate(text.split("\n"), start=1):
        if line:
            blocks[-1].append((number, line))
        else:
            blocks.append([])
    return [lines for lines in blocks if lines]


def _fields(lines):
    """The fields of a block, (line, word, lines of the value), and the numbers of the lines that are lost."""
    fields = []
    lost = []
    for number, line in lines:
        if line.startswith(" ") and fields:
            fields[-1][2].append(line[1:])
        elif line.startswith(" ") or ":" not in line:
            lost.append(number)
        else:
            word, _, first = line.partition(":")
            fields.append((number, word.strip(" ").lower(), [first.strip(" ")]))
    return (fields, lost)


def _why_left_out(draft, kind, had_feed):
    """The remark on a block whose first field has this word, None if it counts."""
    if kind not in FIELDS:
        return "block"
    if kind == "feed":
        return "again" if had_feed else None
    return None if draft.has_room(kind) else "many"


def _read_block(draft, kind, fields, base):
    """Reads a block of this kind."""
    values = {}
    seen = set()
    for line, word, lines in fields:
        if word in seen:
            draft.remark(line, "again")
        elif word not in FIELDS[kind]:
            draft.remark(line, "unknown")
        else:
            value, remark = _value(word, lines, base)
            if value is not None:
                values[word] = value
            if remark is not None:
                draft.remark(line, remark)
        seen.add(word)
    _take_block(draft, kind, fields[0][0], values)


def _take_block(draft, kind, line, values):
    """Takes what a block of this kind tells that begins in this line."""
    if kind == "gone":
        if "gone" in values:
            sort, word = values["gone"]
            draft.take_notice(sort, word, values.get("at"))
        return
    told = {NAMES.get(word, word): value for word, value in values.items()}
    if kind == "feed":
        draft.take_about(told)
    else:
        draft.take_entry(line, told)


def _value(word, lines, base):
    """What a field tells, None if nothing, and the remark on it or None."""
    if word == "text":
        return read_part("text", "\n".join(lines), base)
    text = " ".join(lines).strip(" ")
    if word in DATE_WORDS:
        return _date(text)
    if word == "archive":
        return (True, None) if text == "yes" else (None, "value")
    if word == "gone":
        return _sign(text, base)
    if word == "entry":
        return read_part("told", text, base) if text else (None, None)
    return read_part(NAMES.get(word, word), text, base)


def _date(text):
    """The date that a long text tells, None if none, and the remark on it or None."""
    date, lies = read_long(text)
    if date is None:
        return (None, "date")
    return (date, "weekday" if lies else None)


def _sign(text, base):
    """The pair (sort, word) that the first field of a notice tells, None if none, and the remark on it or None."""
    sort, space, rest = text.partition(" ")
    if sort not in ("told", "link") or sort == "told" and not rest:
        return (None, "value")
    word, remark = read_part(sort, rest, base)
    return (None if word is None else (sort, word), remark)
