"""Shelves once more, told straight from the words of the document, and random sightings and moves."""

from feedreader.dates import date_of, moment_of
from feedreader.pages import Entry

ADDRESSES = ("//h/a", "//h/b", "//h/c", "//h/d")
LINKS = ("//g/1", "//g/2")


def feed_of(moves, address):
    """All addresses that chains of moves join with this one, ascending."""
    feed = {address}
    while True:
        more = {one for move in moves for one in move if set(move) & feed}
        if more <= feed:
            return tuple(sorted(feed))
        feed |= more


def least(sightings):
    """The sightings, each once, with their least moments."""
    found = []
    for feed, thing, moment in sightings:
        for row in found:
            if row[0] == feed and row[1] == thing:
                row[2] = min(row[2], moment)
                break
        else:
            found.append([feed, thing, moment])
    return [tuple(row) for row in found]


def classes(sightings, moves):
    """The lists of the sightings of entries that are of one item."""
    parts = [[row] for row in sightings if isinstance(row[1], Entry)]

    def near(one, other):
        return other[0] in feed_of(moves, one[0]) and bool(set(one[1].signs) & set(other[1].signs))

    joined = True
    while joined:
        joined = False
        for at, part in enumerate(parts):
            for other in parts[at + 1:]:
                if any(near(left, right) for left in part for right in other):
                    part.extend(other)
                    parts.remove(other)
                    joined = True
                    break
    return parts


def items(sightings, moves):
    """All items, as dicts of what they tell, in the order of rows."""
    rows = least(sightings)
    found = []
    for part in classes(rows, moves):
        feed = feed_of(moves, part[0][0])
        entries = []
        for _, entry, _ in part:
            if entry not in entries:
                entries.append(entry)
        ranked = []
        for entry in entries:
            sight = min(row[2] for row in rows if row[1] == entry and row[0] in feed)
            date = entry.changed or entry.published
            ranked.append((sight if date is None else min(sight, moment_of(date)), entry))
        ranked.sort(key=lambda row: (row[0], row[1].order), reverse=True)
        signs = {sign for entry in entries for sign in entry.signs}
        reasons = set()
        for notice in [row[1] for row in rows if not isinstance(row[1], Entry) and row[0] in feed and row[1][:2] in signs]:
            time = min(row[2] for row in rows if row[0] in feed and row[1] == notice)
            if notice[2] is not None:
                time = min(time, moment_of(notice[2]))
            if time >= ranked[0][0]:
                reasons.add(notice[:2] + (time,))
        found.append({
            "feed": feed, "places": tuple(sorted({(row[0],) + sign for row in part for sign in row[1].signs})),
            "version": ranked[0][1], "time": ranked[0][0], "entries": tuple(entry for _, entry in ranked),
            "is_gone": bool(reasons), "reasons": reasons, "signs": signs, "times": [time for time, _ in ranked],
        })
    found.sort(key=lambda item: item["feed"])
    found.sort(key=lambda item: (item["time"], item["version"].order), reverse=True)
    return found


def place_belongs(item, moves, place):
    """Whether a place belongs to such an item."""
    return feed_of(moves, place[0]) == item["feed"] and place[1:] in item["signs"]


def some_entry(rng):
    """A random entry, one of not too many."""
    while True:
        told, link = rng.choice((None, "x", "y", "z")), rng.choice((None, None) + LINKS)
        headline, text = rng.choice(("", "", "H")), rng.choice(("", "t", "u", "v"))
        dates = [rng.choice((None, None, date_of(rng.randrange(40), rng.choice((0, 60))))) for _ in range(2)]
        if told or link or headline or text:
            return Entry(told=told, link=link, headline=headline, text=text, published=dates[0], changed=dates[1])


def some_thing(rng):
    """A random entry or notice."""
    if rng.random() < 0.75:
        return some_entry(rng)
    sign = rng.choice((("told", "x"), ("told", "y"), ("told", "z"), ("link", LINKS[0]), ("link", LINKS[1])))
    return sign + (rng.choice((None, date_of(rng.randrange(40)))),)


def some_sightings(rng, count):
    """Random sightings, some of one thing at several moments."""
    things = [(rng.choice(ADDRESSES), some_thing(rng)) for _ in range(count)]
    return [rng.choice(things) + (rng.randrange(60),) for _ in range(count * 3 // 2)]


def some_moves(rng):
    """Random moves, not many of them."""
    return [tuple(rng.sample(ADDRESSES, 2)) for _ in range(rng.choice((0, 0, 1, 1, 2, 3)))]


def fill(shelf, sightings, moves):
    """Lets a shelf or a library keep these."""
    for feed, thing, moment in sightings:
        shelf.see(feed, thing, moment)
    for old, new in moves:
        shelf.learn(old, new)
    return shelf
