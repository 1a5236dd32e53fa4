"""The notes of libraries: their form, what they bear on, and what they tell together."""

from feedreader.addresses import is_address
from feedreader.kinds import is_int, is_tidy
from feedreader.pages import Entry, is_headline, is_sign_of_notice, is_text

KINDS = ("read", "star", "folder")
DEVICE_SIGNS = "abcdefghijklmnopqrstuvwxyz"


def is_device(value):
    """Whether it is the name of a device."""
    return isinstance(value, str) and 1 <= len(value) <= 8 and all([sign in DEVICE_SIGNS for sign in value])


def is_folder(value):
    """Whether it is a folder, None counted."""
    return value is None or is_tidy(value, 1, 20)


def is_number(value):
    """Whether it is a number that a note can have."""
    return is_int(value) and value >= 1


def is_stamp(value):
    """Whether it is the stamp of a note."""
    return isinstance(value, tuple) and len(value) == 2 and is_number(value[0]) and is_device(value[1])


def is_note(value):
    """Whether it has the form of a note, later than the notes in its over."""
    if not isinstance(value, tuple) or len(value) != 5:
        return False
    stamp, kind, subject, worth, over = value
    if not is_stamp(stamp) or kind not in KINDS:
        return False
    if not isinstance(over, tuple) or not all([is_stamp(other) and other[0] < stamp[0] for other in over]):
        return False
    return _is_rising(over) and _is_subject(kind, subject) and _is_value(kind, worth)


def bearing_notes(shelf, notes):
    """The lists of the notes of which none is in the over of another one, ascending, by what they bear on.

    The keys are pairs of a kind and the first place of an item or the first address of a feed. The notes are a dict
    by their stamps, here and below.
    """
    covered = {earlier for note in notes.values() for earlier in note[4]}
    found = {}
    for stamp in sorted(notes):
        if stamp not in covered:
            _, kind, subject, _, _ = notes[stamp]
            for first in _firsts(shelf, kind, subject):
                found.setdefault((kind, first), []).append(notes[stamp])
    return found


def reading_by(notes, bearing, version):
    """The reading of an item with this version on which these notes of the kind read bear, ascending."""
    if not bearing or bearing[-1][3] is None:
        return "unread"
    # The version is the greatest entry of its item, so it is greater than all that was read unless it is among that.
    return "read" if version.order in _orders_read(notes, bearing) else "newer"


def winning_value(bearing, default):
    """The value of the last one of these notes, the default if there is none."""
    return bearing[-1][3] if bearing else default


def disagree(kind, bearing):
    """Whether these notes of a kind are in conflict."""
    values = [note[3] is None for note in bearing] if kind == "read" else [note[3] for note in bearing]
    return any([value != values[0] for value in values])


def chain_from(notes, stamp):
    """The shortest chain of the note with this stamp, the least one among several."""
    followers = {}
    for later, note in notes.items():
        for earlier in note[4]:
            followers.setdefault(earlier, []).append(later)
    # How many steps lead to the end of a chain. Numbers rise along it, so those of later notes are there first.
    steps = {}
    for known in sorted(notes, reverse=True):
        steps[known] = 1 + min([steps[later] for later in followers.get(known, [])], default=-1)
    row = [stamp]
    while steps[row[-1]] > 0:
        left = steps[row[-1]] - 1
        row.append(min([later for later in followers[row[-1]] if steps[later] == left]))
    return tuple(row)


def _is_rising(values):
    """Whether each of these is greater than the one before it."""
    return all([left < right for left, right in zip(values, values[1:])])


def _is_place(value):
    """Whether it is an address and a sign that entries can have."""
    if not isinstance(value, tuple) or len(value) != 3:
        return False
    address, sort, word = value
    return is_address(address) and (is_sign_of_notice(sort, word) or _is_words(sort, word))


def _is_words(sort, word):
    """Whether they are the sign of an entry that has only a headline and a text."""
    if sort != "words" or not isinstance(word, str):
        return False
    headline, newline, text = word.partition("\n")
    return newline == "\n" and is_headline(headline) and is_text(text) and word != newline


def _is_subject(kind, value):
    """Whether it is a subject of notes of a kind."""
    if not isinstance(value, tuple) or not value:
        return False
    parts_fit = [is_address(part) if kind == "folder" else _is_place(part) for part in value]
    return all(parts_fit) and _is_rising(value)


def _is_value(kind, value):
    """Whether it is a value of notes of a kind."""
    if kind == "read":
        return value is None or isinstance(value, Entry)
    return isinstance(value, bool) if kind == "star" else is_folder(value)


def _firsts(shelf, kind, subject):
    """The first places of the items, or the first addresses of the feeds, on which such a subject bears."""
    if kind == "folder":
        return sorted(set([shelf.feed_of(address)[0] for address in subject]))
    items = [shelf.find_item(place) for place in subject]
    return sorted(set([item.places[0] for item in items if item is not None]))


def _orders_read(notes, bearing):
    """The orders of the entries of the notes that count if these bear on an item, as a dict of True."""
    orders = {}
    counted = set()
    waiting = list(bearing)
    while waiting:
        stamp, _, _, value, over = waiting.pop()
        if isinstance(value, Entry) and stamp not in counted:
            counted.add(stamp)
            orders[value.order] = True
            waiting.extend([notes[earlier] for earlier in over if earlier in notes])
    return orders
