"""Papers, which show whether two sightings of entries are of one item."""

from feedreader.addresses import is_address
from feedreader.errors import NoSighting
from feedreader.joins import classes_of, links_of, way_between
from feedreader.kinds import is_int
from feedreader.pages import Entry


def why_one(shelf, one, other):
    """A paper that two sightings of entries are of one item, None if they are not."""
    _check_sightings(shelf, one, other)
    roots = _roots(shelf)
    pairs = []
    entries = {}
    for feed, entry in _entry_sightings(shelf):
        thing = (feed, entry.order)
        entries[thing] = entry
        pairs.extend([(thing, (roots[feed],) + sign) for sign in entry.signs])
    # The way goes from sightings to their signs and from these to other sightings.
    steps = way_between(links_of(pairs), (one[0], one[1].order), (other[0], other[1].order))
    if steps is None:
        return None
    things = steps[::2]
    links = links_of(shelf.moves)
    return (
        "one",
        tuple([(feed, entries[(feed, order)]) for feed, order in things]),
        tuple([(sort, word) for _, sort, word in steps[1::2]]),
        tuple([tuple(way_between(links, left[0], right[0])) for left, right in zip(things, things[1:])]),
    )


def why_two(shelf, one, other):
    """A paper that two sightings of entries are not of one item, None if they are."""
    _check_sightings(shelf, one, other)
    roots = _roots(shelf)
    pairs = []
    for feed, entry in _entry_sightings(shelf):
        first = (roots[feed],) + entry.signs[0]
        pairs.extend([(first, (roots[feed],) + sign) for sign in entry.signs])
    classes = classes_of(links_of(pairs))
    left, right = [classes[(roots[feed],) + entry.signs[0]] for feed, entry in (one, other)]
    if left == right:
        return None
    feed_numbers = _numbers(roots)
    class_numbers = _numbers(classes)
    feeds = {address: feed_numbers[roots[address]] for address in roots}
    labels = {
        (feed_numbers[root], sort, word): class_numbers[first] for (root, sort, word), first in classes.items()
    }
    return ("two", feeds, labels)


def shows(shelf, one, other, paper):
    """Whether a paper shows that two sightings of entries are of "one" item or of "two", None if it shows neither."""
    _check_sightings(shelf, one, other)
    if not isinstance(paper, tuple) or not paper or not isinstance(paper[0], str):
        return None
    if paper[0] == "one" and len(paper) == 4 and _shows_one(shelf, one, other, paper):
        return "one"
    if paper[0] == "two" and len(paper) == 3 and _shows_two(shelf, one, other, paper):
        return "two"
    return None


def _check_sightings(shelf, one, other):
    """Refuses what is no sighting of an entry in the shelf."""
    for number, value in enumerate((one, other)):
        if not _is_sighting(shelf, value):
            raise NoSighting(number)


def _is_sighting(shelf, value):
    """Whether it is a sighting of an entry in the shelf."""
    if not isinstance(value, tuple) or len(value) != 2:
        return False
    feed, entry = value
    return is_address(feed) and isinstance(entry, Entry) and shelf.has_seen(feed, entry)


def _entry_sightings(shelf):
    """The sightings of entries in the shelf."""
    return [(feed, thing) for feed, thing, _ in shelf.sightings if isinstance(thing, Entry)]


def _addresses(shelf):
    """The addresses of the moves and of the sightings of entries."""
    return [address for move in shelf.moves for address in move] + [feed for feed, _ in _entry_sightings(shelf)]


def _roots(shelf):
    """By address: the least address of its feed."""
    return classes_of(links_of(list(shelf.moves) + [(address, address) for address in _addresses(shelf)]))


def _numbers(classes):
    """A number for each class, by its least member."""
    return {first: number for number, first in enumerate(sorted(set(list(classes.values()))))}


def _shows_one(shelf, one, other, paper):
    """Whether a tuple of four shows that two sightings are of one item."""
    _, sightings, signs, ways = paper
    if not all([isinstance(row, tuple) for row in (sightings, signs, ways)]):
        return False
    if not sightings or len(signs) != len(sightings) - 1 or len(ways) != len(signs):
        return False
    if not all([_is_sighting(shelf, value) for value in sightings]):
        return False
    if sightings[0] != one or sightings[-1] != other:
        return False
    moves = {move: True for move in shelf.moves}
    for left, right, sign, way in zip(sightings, sightings[1:], signs, ways):
        if not isinstance(sign, tuple) or sign not in left[1].signs or sign not in right[1].signs:
            return False
        if not _is_way(moves, left[0], right[0], way):
            return False
    return True


def _is_way(moves, start, goal, value):
    """Whether it is a tuple of addresses from one to another that the moves join."""
    if not isinstance(value, tuple) or not value or not all([is_address(address) for address in value]):
        return False
    if value[0] != start or value[-1] != goal:
        return False
    return all([(left, right) in moves or (right, left) in moves for left, right in zip(value, value[1:])])


def _shows_two(shelf, one, other, paper):
    """Whether a tuple of three shows that two sightings are of two items."""
    _, feeds, labels = paper
    if not isinstance(feeds, dict) or not isinstance(labels, dict):
        return False
    if not all([is_int(feeds.get(address)) for address in _addresses(shelf)]):
        return False
    if any([feeds[old] != feeds[new] for old, new in shelf.moves]):
        return False
    found = {}
    for feed, entry in _entry_sightings(shelf):
        told = [labels.get((feeds[feed],) + sign) for sign in entry.signs]
        if any([not is_int(label) or label != told[0] for label in told]):
            return False
        found[(feed, entry.order)] = told[0]
    left, right = [found[(feed, entry.order)] for feed, entry in (one, other)]
    return left != right
