"""Walks, which read a feed from its newest page on to the older ones."""

from feedreader.errors import BadText
from feedreader.formats import read_feed

MOST_PAGES = 40


class Walk:
    """What was read of a feed at a moment; only the function walk makes it."""

    def __init__(self, here, pages, moves, remarks, word, known):
        self._here = here
        self._pages = pages
        self._moves = moves
        self._remarks = remarks
        self._word = word
        self._known = known

    @property
    def here(self):
        """The address to which the first one leads for ever, None if no page was read."""
        return self._here

    @property
    def pages(self):
        """The tuple of the pages that were read, each as (address, page, moment at which it was told)."""
        return self._pages

    @property
    def moves(self):
        """The ascending tuple of the moves that the fetcher knows in the end."""
        return self._moves

    @property
    def remarks(self):
        """The tuple of the remarks on the texts, each as (address, line, column, word)."""
        return self._remarks

    @property
    def word(self):
        """Why the walk ended."""
        return self._word

    @property
    def known(self):
        """The ascending tuple of the addresses that later walks need not read."""
        return self._known


def walk(fetcher, address, moment, *, known=()):
    """Reads a feed at a moment from an address on, up to a page that is known or to the end."""
    asked = [address]
    pages = []
    remarks = []
    word = None
    while word is None:
        result = fetcher.fetch(asked[-1], moment)
        word, page, marks = _read(result, pages)
        if word is not None:
            break
        _, _, place, told = result
        pages.append((place, page, told))
        remarks.extend([(place, line, column, remark) for line, column, remark in marks])
        word = _why_ended(page.older, known, asked, pages)
        asked.append(page.older)
    moves = fetcher.moves
    here = _end_of_moves(address, moves) if pages else None
    archives = [place for place, page, _ in pages if page.is_archive and word in ("whole", "known")]
    return Walk(here, tuple(pages), moves, tuple(remarks), word, tuple(sorted(set([*known, *archives]))))


def _read(result, pages):
    """Why a walk ends behind a fetching with this result (None if it does not), and the page with its remarks."""
    if result[0] != "page":
        return (result[0], None, ())
    _, text, address, _ = result
    if any([address == place for place, _, _ in pages]):
        return ("ring", None, ())
    try:
        page, marks = read_feed(text, address)
    except BadText:
        return ("bad", None, ())
    return (None, page, marks)


def _why_ended(older, known, asked, pages):
    """Why a walk ends behind these pages with this older one, None if it goes on there."""
    if older is None:
        return "whole"
    if older in known:
        return "known"
    if older in asked:
        return "ring"
    return "long" if len(pages) == MOST_PAGES else None


def _end_of_moves(address, moves):
    """The address at the end of the row of these moves that begins at an address."""
    goals = {old: new for old, new in moves}
    row = [address]
    # A replay can tell moves that lead back: such a row ends ahead of an address that it has already.
    while row[-1] in goals and goals[row[-1]] not in row:
        row.append(goals[row[-1]])
    return row[-1]
