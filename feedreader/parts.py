"""The parts of a page that both formats write and read."""

from feedreader.addresses import resolve, written
from feedreader.pages import MOST_ENTRIES, MOST_NOTICES, Entry, Page, is_headline, is_text, is_told

ADDRESS_WORDS = ("link", "here", "older")
# What an entry cannot do without: one of these.
CORE_WORDS = ("told", "link", "headline", "text")


def page_parts(page, base):
    """The pairs (word, text) of what a page tells beside its headline, entries and notices."""
    addresses = (("here", page.here), ("older", page.older))
    parts = [(word, written(base, address)) for word, address in addresses if address is not None]
    return parts + [("archive", "yes")] if page.is_archive else parts


def entry_parts(entry, base, date_text):
    """The pairs (word, text) of what an entry tells, dates as the function date_text writes them."""
    link = None if entry.link is None else written(base, entry.link)
    published = None if entry.published is None else date_text(entry.published)
    changed = None if entry.changed is None else date_text(entry.changed)
    parts = [
        ("told", entry.told), ("link", link), ("headline", entry.headline or None),
        ("published", published), ("changed", changed), ("text", entry.text or None),
    ]
    return [part for part in parts if part[1] is not None]


def notice_parts(notice, base, date_text):
    """The pairs (word, text) of what a notice tells, its sign first."""
    sort, word, date = notice
    sign = (sort, written(base, word) if sort == "link" else word)
    return [sign] if date is None else [sign, ("at", date_text(date))]


def read_part(word, text, base):
    """What the text of a part that is no date tells, and None; or None and the remark on it."""
    if word in ADDRESS_WORDS:
        address = resolve(base, text)
        return (address, "address" if address is None else None)
    if _fits(word, text):
        return (text, None)
    return (None, "unfit")


class Draft:
    """A page that is being read, and the remarks on its text."""

    def __init__(self):
        self._about = {}
        self._read_entries = []
        self._read_notices = []
        self._remarks = {}

    def remark(self, place, word):
        """Keeps a remark, unless there is one on this place already."""
        self._remarks.setdefault(place, word)

    def has_room(self, word):
        """Whether one more list or block of this word may count: an entry, otherwise a notice."""
        if word == "entry":
            return len(self._read_entries) < MOST_ENTRIES
        return len(self._read_notices) < MOST_NOTICES

    def take_about(self, values):
        """Takes what the page tells of itself, a dict of fields."""
        self._about.update(values)

    def take_entry(self, place, values):
        """Takes an entry with these fields, a dict, unless nothing is there."""
        if any([values.get(word) for word in CORE_WORDS]):
            self._read_entries.append(Entry(**values))
        else:
            self.remark(place, "empty")

    def take_notice(self, sort, word, date):
        """Takes a notice."""
        self._read_notices.append((sort, word, date))

    def page(self):
        """The page that was read."""
        values = {**self._about, "entries": tuple(self._read_entries), "notices": tuple(self._read_notices)}
        return Page(**values)

    def all_remarks(self):
        """The pairs (place, word) of the remarks, places ascending."""
        return sorted(self._remarks.items())


def _fits(word, text):
    """Whether a page can have the text as a told, a text or a headline."""
    if word == "told":
        return is_told(text)
    return is_text(text) if word == "text" else is_headline(text)
