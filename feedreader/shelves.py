"""Shelves, which gather what was seen of feeds, and tell each item once, in its newest version."""

from feedreader.addresses import is_address
from feedreader.dates import is_moment, moment_of
from feedreader.errors import BadAddress, BadMoment, BadShelf, BadThing, NoItem
from feedreader.joins import classes_of, links_of
from feedreader.pages import Entry, is_notice

# The ranks of sightings, which put entries ahead of notices.
ENTRY_RANK = 0
NOTICE_RANK = 1


class Item:
    """An entry of a feed in all its versions, as a shelf knew them."""

    def __init__(self, feed, places, time, entries, reasons):
        self._feed = feed
        self._places = places
        self._time = time
        self._entries = entries
        self._reasons = reasons

    @property
    def feed(self):
        """The ascending tuple of the addresses of its feed."""
        return self._feed

    @property
    def places(self):
        """The ascending tuple of the places (address, sort, word) at which it was seen."""
        return self._places

    @property
    def version(self):
        """Its newest version."""
        return self._entries[0]

    @property
    def time(self):
        """The time of its newest version."""
        return self._time

    @property
    def entries(self):
        """The tuple of all its versions, the newest one first."""
        return self._entries

    @property
    def is_gone(self):
        """Whether it was withdrawn."""
        return bool(self._reasons)

    @property
    def reasons(self):
        """The tuple of the notices that make it gone, each as (sort, word, time)."""
        return self._reasons


class Gathering:
    """What a shelf tells of all that it keeps."""

    def __init__(self, roots, feeds, ordered, by_sign):
        # By address: the least address of its feed. By this one: the ascending tuple of the feed.
        self.roots = roots
        self.feeds = feeds
        # All items, in the order of rows. By tuples of the least address of a feed and a sign: the item.
        self.ordered = ordered
        self.by_sign = by_sign


class Shelf:
    """Keeps when entries and notices were first seen at which addresses, and the moves between addresses."""

    def __init__(self):
        # By keys as of _key: pairs of what was seen and the least moment.
        self._seen = {}
        self._moves = {}
        self._gathered = None

    def __eq__(self, other):
        return isinstance(other, Shelf) and self._seen == other._seen and self._moves == other._moves

    def __or__(self, other):
        return self.merged(other)

    def __contains__(self, place):
        return self.find_item(place) is not None

    @property
    def sightings(self):
        """The tuple of what was seen, each as (feed, thing, least moment), in order."""
        return tuple([(key[0],) + self._seen[key] for key in sorted(self._seen)])

    @property
    def moves(self):
        """The ascending tuple of the moves."""
        return tuple(sorted(self._moves))

    @property
    def gathered(self):
        """The feeds and items of all that it keeps."""
        if self._gathered is None:
            self._gathered = gather(self._seen, self._moves)
        return self._gathered

    def see(self, feed, thing, moment):
        """Keeps that an entry or a notice was seen at an address at a moment."""
        if not is_address(feed):
            raise BadAddress(feed)
        if not is_thing(thing):
            raise BadThing(thing)
        if not is_moment(moment):
            raise BadMoment(moment)
        key = _key(feed, thing)
        if key not in self._seen or moment < self._seen[key][1]:
            self._seen[key] = (thing, moment)
            self._gathered = None

    def learn(self, old, new):
        """Keeps that an address moved to another one."""
        for address in (old, new):
            if not is_address(address):
                raise BadAddress(address)
        if old == new:
            raise BadAddress(new)
        self._moves[(old, new)] = True
        self._gathered = None

    def take_walk(self, walk):
        """Keeps all that was seen on a walk, and its moves."""
        for _, page, told in walk.pages:
            for thing in page.entries + page.notices:
                self.see(walk.here, thing, told)
        for old, new in walk.moves:
            self.learn(old, new)

    def merged(self, *others):
        """A new shelf that keeps what this one and others keep."""
        for number, other in enumerate(others):
            if not isinstance(other, Shelf):
                raise BadShelf(number)
        shelves = [self] + list(others)
        whole = Shelf()
        whole._seen = _first_seen([shelf._seen for shelf in shelves])
        whole._moves = {move: True for shelf in shelves for move in shelf._moves}
        return whole

    def is_within(self, other):
        """Whether another shelf keeps all that this one keeps."""
        return other.merged(self) == other

    def has_seen(self, feed, thing):
        """Whether an entry or a notice was seen at an address."""
        return _key(feed, thing) in self._seen

    def feed_of(self, address):
        """The ascending tuple of the addresses of the feed of an address."""
        if not is_address(address):
            raise BadAddress(address)
        gathered = self.gathered
        if address not in gathered.roots:
            return (address,)
        return gathered.feeds[gathered.roots[address]]

    def all_items(self, *, gone=False):
        """The tuple of the items that are not gone, or of those that are, in the order of rows."""
        return tuple([item for item in self.gathered.ordered if item.is_gone == gone])

    def item_of(self, place):
        """The item to which a place belongs."""
        item = self.find_item(place)
        if item is None:
            raise NoItem(place)
        return item

    def find_item(self, place):
        """The item to which a place belongs, None for every other object."""
        if not isinstance(place, tuple) or len(place) != 3 or not all([isinstance(part, str) for part in place]):
            return None
        address, sort, word = place
        gathered = self.gathered
        return gathered.by_sign.get((gathered.roots.get(address, address), sort, word))


def is_thing(value):
    """Whether it is something that can be seen: an entry or a notice."""
    return isinstance(value, Entry) or is_notice(value)


def growth(lesser, greater):
    """What became of the items of a shelf in a greater one that it is within."""
    for number, shelf in enumerate((lesser, greater)):
        if not isinstance(shelf, Shelf):
            raise BadShelf(number)
    if not lesser.is_within(greater):
        raise BadShelf(None)
    # By the first places of the items of the greater shelf.
    olds = {}
    for item in lesser.gathered.ordered:
        first = item.places[0]
        olds.setdefault(greater.item_of(first).places[0], []).append(item)
    return tuple([_grown(item, olds.get(item.places[0], [])) for item in greater.gathered.ordered])


def gather(seen, moves):
    """What a shelf tells that keeps these sightings and moves."""
    roots = classes_of(links_of(list(moves) + [(feed, feed) for feed, _, _ in seen]))
    feeds = _feeds(roots)
    times = _notice_times(seen, roots)
    rows = []
    by_sign = {}
    for signs, sightings in _classes(seen, roots):
        root = roots[sightings[0][0]]
        item = _item(feeds[root], signs, sightings, {sign: times.get((root,) + sign, ()) for sign in signs})
        rows.append(((item.time, item.version.order), item.feed, item))
        for sign in signs:
            by_sign[(root,) + sign] = item
    rows = sorted(rows, key=lambda row: row[1])
    # Sorting keeps the order of rows that are alike by this key.
    rows = sorted(rows, key=lambda row: row[0], reverse=True)
    return Gathering(roots, feeds, tuple([item for _, _, item in rows]), by_sign)


def _key(feed, thing):
    """By what sightings are told apart and put in order."""
    if isinstance(thing, Entry):
        return (feed, ENTRY_RANK, thing.order)
    sort, word, date = thing
    return (feed, NOTICE_RANK, (sort, word, () if date is None else (date,)))


def _first_seen(parts):
    """What several shelves have seen, with the least moments."""
    whole = {}
    for seen in parts:
        for key, (thing, moment) in seen.items():
            if key not in whole or moment < whole[key][1]:
                whole[key] = (thing, moment)
    return whole


def _feeds(roots):
    """The ascending tuples of the addresses that have the same least address, by this one."""
    feeds = {}
    for address in sorted(roots):
        feeds.setdefault(roots[address], []).append(address)
    return {root: tuple(addresses) for root, addresses in feeds.items()}


def _notice_times(seen, roots):
    """The lists of the times of notices, by tuples of the least address of their feed and their sign."""
    sights = {}
    for (feed, rank, order), (_, moment) in seen.items():
        if rank == NOTICE_RANK:
            notice = (roots[feed],) + order
            sights[notice] = min(moment, sights.get(notice, moment))
    times = {}
    for (root, sort, word, dates), sight in sights.items():
        times.setdefault((root, sort, word), []).append(min([sight] + [moment_of(date) for date in dates]))
    return times


def _classes(seen, roots):
    """For each item the ascending list of its signs and the list of its sightings (feed, entry, moment)."""
    sightings = [(key[0],) + seen[key] for key in seen if key[1] == ENTRY_RANK]
    pairs = []
    for feed, entry, _ in sightings:
        first = (roots[feed],) + entry.signs[0]
        pairs.extend([(first, (roots[feed],) + sign) for sign in entry.signs])
    classes = classes_of(links_of(pairs))
    signs = {}
    for place in sorted(classes):
        signs.setdefault(classes[place], []).append(place[1:])
    members = {}
    for feed, entry, moment in sightings:
        members.setdefault(classes[(roots[feed],) + entry.signs[0]], []).append((feed, entry, moment))
    return [(signs[first], members[first]) for first in signs]


def _item(feed, signs, sightings, times):
    """The item of a feed with these signs and sightings; the times of notices are told by sign."""
    sights = {}
    entries = {}
    for _, entry, moment in sightings:
        sights[entry.order] = min(moment, sights.get(entry.order, moment))
        entries[entry.order] = entry
    ranks = sorted([(_time(entries[order], sights[order]), order) for order in entries], reverse=True)
    time = ranks[0][0]
    places = sorted(set([(address,) + sign for address, entry, _ in sightings for sign in entry.signs]))
    reasons = [(sort, word, told) for sort, word in signs for told in times[(sort, word)] if told >= time]
    return Item(feed, tuple(places), time, tuple([entries[order] for _, order in ranks]), tuple(reasons))


def _time(entry, sight):
    """The time of an entry with this sight."""
    date = entry.published if entry.changed is None else entry.changed
    return sight if date is None else min(sight, moment_of(date))


def _grown(item, olds):
    """What growth tells of an item into which these items of a lesser shelf went."""
    are_gone = [old.is_gone for old in olds]
    words = [word for word, applies in (
        ("new", not olds),
        ("joined", len(olds) > 1),
        ("newer", bool(olds) and not any([old.version == item.version for old in olds])),
        ("gone", item.is_gone and (not olds or not all(are_gone))),
        ("back", not item.is_gone and bool(olds) and all(are_gone)),
    ) if applies]
    return (tuple(sorted([old.places[0] for old in olds])), item.version, tuple(words))
