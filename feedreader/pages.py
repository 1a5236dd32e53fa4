"""Entries, notices of what was withdrawn, and the pages that hold them."""

from feedreader.addresses import is_address
from feedreader.dates import is_date
from feedreader.errors import BadEntry, BadPage
from feedreader.kinds import is_tidy

MOST_ENTRIES = 60
MOST_NOTICES = 60
LONGEST_TEXT = 2000


def is_told(value):
    """Whether an entry can have it as its told."""
    return is_tidy(value, 1, 40)


def is_headline(value):
    """Whether an entry or a page can have it as its headline."""
    return is_tidy(value, 0, 80)


def is_text(value):
    """Whether an entry can have it as its text."""
    if not isinstance(value, str) or len(value) > LONGEST_TEXT:
        return False
    return is_tidy(value.partition("\n")[0], 0, LONGEST_TEXT)


def is_notice(value):
    """Whether it is a notice that an entry was withdrawn."""
    if not isinstance(value, tuple) or len(value) != 3:
        return False
    sort, word, date = value
    return is_sign_of_notice(sort, word) and (date is None or is_date(date))


def is_sign_of_notice(sort, word):
    """Whether they tell the entry that a notice is about: its told or its link."""
    if not isinstance(sort, str):
        return False
    return sort == "told" and is_told(word) or sort == "link" and is_address(word)


class Entry:
    """One version of what a feed publishes."""

    def __init__(self, *, told=None, link=None, headline="", text="", published=None, changed=None):
        for field, fits in (
            ("told", told is None or is_told(told)),
            ("link", link is None or is_address(link)),
            ("headline", is_headline(headline)),
            ("text", is_text(text)),
            ("published", published is None or is_date(published)),
            ("changed", changed is None or is_date(changed)),
            ("told", told is not None or link is not None or headline != "" or text != ""),
        ):
            if not fits:
                raise BadEntry(field)
        self._told = told
        self._link = link
        self._headline = headline
        self._text = text
        self._published = published
        self._changed = changed
        self._signs = _signs_of(told, link, headline, text)
        self._order = _order_of((told, link, headline, text, published, changed))

    def __eq__(self, other):
        return isinstance(other, Entry) and self._order == other._order

    @property
    def told(self):
        """The name by which the feed tells the entry, None if there is none."""
        return self._told

    @property
    def link(self):
        """The address to which the entry leads, None if there is none."""
        return self._link

    @property
    def headline(self):
        """The headline, empty if there is none."""
        return self._headline

    @property
    def text(self):
        """The text, empty if there is none."""
        return self._text

    @property
    def published(self):
        """The date at which the entry came, None if it is not told."""
        return self._published

    @property
    def changed(self):
        """The date of this version, None if it is not told."""
        return self._changed

    @property
    def signs(self):
        """The pairs by which this entry is known as one with others."""
        return self._signs

    @property
    def order(self):
        """The tuple by which entries are put in order."""
        return self._order


class Page:
    """What stands at an address of a feed."""

    def __init__(self, *, headline="", here=None, older=None, is_archive=False, entries=(), notices=()):
        for field, fits in (
            ("headline", is_headline(headline)),
            ("here", here is None or is_address(here)),
            ("older", older is None or is_address(older)),
            ("is_archive", isinstance(is_archive, bool)),
            ("entries", isinstance(entries, tuple) and len(entries) <= MOST_ENTRIES),
        ):
            if not fits:
                raise BadPage(field, None)
        for number, entry in enumerate(entries):
            if not isinstance(entry, Entry):
                raise BadPage("entries", number)
        if not isinstance(notices, tuple) or len(notices) > MOST_NOTICES:
            raise BadPage("notices", None)
        for number, notice in enumerate(notices):
            if not is_notice(notice):
                raise BadPage("notices", number)
        self._headline = headline
        self._here = here
        self._older = older
        self._is_archive = is_archive
        self._entries = entries
        self._notices = notices

    def __eq__(self, other):
        if not isinstance(other, Page) or self._is_archive != other._is_archive:
            return False
        if (self._headline, self._here, self._older) != (other._headline, other._here, other._older):
            return False
        return self._entries == other._entries and self._notices == other._notices

    def __bool__(self):
        return bool(self._entries) or bool(self._notices)

    @property
    def headline(self):
        """The headline of the feed, empty if there is none."""
        return self._headline

    @property
    def here(self):
        """The page's own address, None if it is not told."""
        return self._here

    @property
    def older(self):
        """The address of the page with older entries, None if there is none."""
        return self._older

    @property
    def is_archive(self):
        """Whether the page never changes again."""
        return self._is_archive

    @property
    def entries(self):
        """The tuple of the entries."""
        return self._entries

    @property
    def notices(self):
        """The tuple of the notices of what was withdrawn."""
        return self._notices


def _signs_of(told, link, headline, text):
    """The signs of an entry with these fields."""
    signs = [(sort, word) for sort, word in (("told", told), ("link", link)) if word is not None]
    return tuple(signs) if signs else (("words", headline + "\n" + text),)


def _order_of(fields):
    """The order of an entry with these fields: None cannot be compared with what else may stand there."""
    return tuple([() if field is None else (field,) for field in fields])
