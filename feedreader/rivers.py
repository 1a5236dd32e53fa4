"""Rivers, which publish the rows of a library that fit a query anew."""

from feedreader.dates import date_of
from feedreader.errors import BadAddress, BadNumber
from feedreader.kinds import is_within
from feedreader.pages import MOST_NOTICES, Entry, Page
from feedreader.presses import is_press_address, page_address
from feedreader.searches import search


def river(library, query, address, *, size=4):
    """The pages that publish the rows that fit a query, each as (address, page): the newest one, then the archives."""
    rows = search(library, query)
    if not is_press_address(address):
        raise BadAddress(address)
    if not is_within(size, 1, 9):
        raise BadNumber("size")
    entries = [_entry_of(row) for row in rows]
    notices = _notices(library, entries)
    archives = []
    while len(entries) > 2 * size:
        archives.append(entries[-size:])
        entries = entries[:-size]
    # Archives are numbered from 1 on.
    parts = [entries] + archives
    pages = []
    for number in [0] + list(range(len(archives), 0, -1)):
        last = number - 1 if number else len(archives)
        page = Page(
            here=page_address(address, number), older=page_address(address, last) if last else None,
            is_archive=number > 0, entries=tuple(parts[number]), notices=() if number else notices,
        )
        pages.append((page.here, page))
    return tuple(pages)


def _entry_of(row):
    """The version of a row, with its time as the date at which it changed."""
    entry, time = row[:2]
    return Entry(
        told=entry.told, link=entry.link, headline=entry.headline, text=entry.text, published=entry.published,
        changed=date_of(time),
    )


def _notices(library, entries):
    """The notices of all that is gone, the later ones first, but those with a sign of one of these entries."""
    signs = {sign for entry in entries for sign in entry.signs}
    reasons = [reason for item in library.shelf.all_items(gone=True) for reason in item.reasons]
    ranks = sorted(set([(-time, sort, word) for sort, word, time in reasons if (sort, word) not in signs]))
    return tuple([(sort, word, date_of(-rank)) for rank, sort, word in ranks[:MOST_NOTICES]])
