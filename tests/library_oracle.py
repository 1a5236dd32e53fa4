"""Libraries once more, told straight from the words of the document, and random doings with several of them."""

from feedreader.pages import Entry
from tests import shelf_oracle
from tests.shelf_oracle import ADDRESSES, some_thing

FOLDERS = (None, "f", "g")


def bears(note, moves, target):
    """Whether a note bears on an item (a dict of the oracle of shelves) or on a feed (a tuple of addresses)."""
    if note[1] == "folder":
        return isinstance(target, tuple) and any(address in target for address in note[2])
    return isinstance(target, dict) and any(shelf_oracle.place_belongs(target, moves, place) for place in note[2])


def is_open(note, notes):
    """Whether no other note has this one in its over."""
    return not any(note[0] in other[4] for other in notes if other[0] != note[0])


def bearing(kind, notes, moves, target):
    """The notes of a kind that are open and bear on a target, ascending."""
    return [note for note in sorted(notes, key=lambda note: note[0])
            if note[1] == kind and is_open(note, notes) and bears(note, moves, target)]


def winning(kind, notes, moves, target, default):
    """The value of the winner of a kind."""
    found = bearing(kind, notes, moves, target)
    return found[-1][3] if found else default


def reading(notes, moves, item):
    """The reading of an item."""
    if winning("read", notes, moves, item, None) is None:
        return "unread"
    counted = [note for note in bearing("read", notes, moves, item) if isinstance(note[3], Entry)]
    for note in counted:
        counted += [other for other in notes if other[0] in note[4] and isinstance(other[3], Entry) and other not in counted]
    rank = {entry.order: (time, entry.order) for time, entry in zip(item["times"], item["entries"])}
    ranks = [rank[note[3].order] for note in counted if note[3].order in rank]
    return "newer" if not ranks or rank[item["version"].order] > max(ranks) else "read"


def rows(sightings, moves, notes):
    """The rows of a library with these."""
    return tuple(
        (item["version"], item["time"], reading(notes, moves, item), winning("star", notes, moves, item, False),
         winning("folder", notes, moves, item["feed"], None), item["feed"])
        for item in shelf_oracle.items(sightings, moves) if not item["is_gone"]
    )


def conflicts(sightings, moves, notes):
    """The conflicts of a library with these."""
    targets = shelf_oracle.items(sightings, moves)
    targets += [shelf_oracle.feed_of(moves, address) for note in notes if note[1] == "folder" for address in note[2]]
    found = set()
    for target in targets:
        for kind in ("read", "star", "folder"):
            told = bearing(kind, notes, moves, target)
            values = {note[3] is None if kind == "read" else note[3] for note in told}
            if len(values) > 1:
                found.add((kind, tuple(note[0] for note in told)))
    return tuple(sorted(found))


def chains(notes, stamp):
    """All chains of a note, each as a tuple."""
    [note] = [note for note in notes if note[0] == stamp]
    if is_open(note, notes):
        return [(stamp,)]
    return [(stamp,) + rest for other in notes if stamp in other[4] for rest in chains(notes, other[0])]


def places(library):
    """Places that belong to items of a library, gone or not."""
    shelf = library.shelf
    return sorted({place for gone in (False, True) for item in shelf.all_items(gone=gone) for place in item.places})


def do_something(rng, libraries):
    """Lets one of the libraries do something by itself: see, learn or note; takes come from elsewhere."""
    library = rng.choice(libraries)
    word = rng.choice(("see", "see", "learn", "read", "read", "unread", "star", "unstar", "folder"))
    if word == "see":
        library.see(rng.choice(ADDRESSES), some_thing(rng), rng.randrange(60))
    elif word == "learn" and rng.random() < 0.3:
        library.learn(*rng.sample(ADDRESSES, 2))
    elif word == "folder":
        library.file_feed(rng.choice(ADDRESSES), rng.choice(FOLDERS))
    elif places(library) and word != "learn":
        method = {"read": library.mark_read, "unread": library.mark_unread, "star": library.star, "unstar": library.unstar}[word]
        method(rng.choice(places(library)))
    return library


def some_libraries(rng, libraries, count):
    """Lets libraries do random things and take one another, directly or in bundles that come late or twice."""
    sent = []
    for _ in range(count):
        library = do_something(rng, libraries)
        other = rng.choice(libraries)
        chance = rng.random()
        if chance < 0.15:
            library.take(other)
        elif chance < 0.3:
            sent.append(other.bundle(rng.choice((library.vector(), {}, other.vector()))))
        elif chance < 0.5 and sent:
            yield library, rng.choice(sent)
