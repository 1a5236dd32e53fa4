"""Presses once more, told by going through their deeds one by one, and random deeds."""

from feedreader.dates import date_of
from feedreader.pages import Entry, Page


def told_at(deeds, moment, size=4, headline=""):
    """What a press is like at a moment, by its deeds (moment, word, ..), the first one ("move", address).

    Tells the dict of what stands at each address, the newest versions, and for each put [begin, end or None].
    """
    bases, been, recent, archives, gone, there, windows = [], {}, [], [], [], [], []
    for at, word, *rest in deeds:
        if at > moment:
            break
        if word == "move":
            bases.append(rest[0])
        elif word == "withdraw":
            there = [version for version in there if version.told != rest[0]]
            gone.insert(0, ("told", rest[0], date_of(at, 0)))
            recent = drop(recent, windows, at, lambda version: version.told == rest[0])
        else:
            fields = dict(rest[0])
            date = date_of(at, fields.pop("zone", 0))
            older = [version for version in there if version.told == fields["told"]]
            entry = Entry(**fields, changed=date, published=older[0].published if older else date)
            there = [entry] + [version for version in there if version.told != entry.told]
            gone = [notice for notice in gone if notice[1] != entry.told]
            recent = [(len(windows), entry)] + drop(recent, windows, at, lambda version: version.told == entry.told)
            windows.append([at, None])
            if len(recent) > 2 * size:
                leaving = recent[-(size + 1):]
                archives.append(tuple(version for _, version in leaving))
                recent = drop(recent, windows, at, lambda version: version in archives[-1])
        for number in range(len(archives) + 1):
            been[bases[-1] + (f"/old/{number}" if number else "")] = (len(bases) - 1, number)
    stands = {}
    for address, (place, number) in been.items():
        tail = f"/old/{number}" if number else ""
        if place < len(bases) - 1:
            stands[address] = ("moved", bases[place + 1] + tail)
            continue
        older = number - 1 if number else len(archives)
        stands[address] = Page(
            headline=headline, here=address, older=f"{bases[-1]}/old/{older}" if older else None, is_archive=bool(number),
            entries=archives[number - 1] if number else tuple(version for _, version in recent), notices=() if number else tuple(gone))
    return stands, tuple(there), windows


def drop(recent, windows, moment, is_leaving):
    """The row without the versions that leave it now."""
    for number, version in recent:
        if is_leaving(version):
            windows[number][1] = moment
    return [row for row in recent if not is_leaving(row[1])]


def some_deeds(rng, count, first="//h/p0", tolds="abcdefg", links=True):
    """Random deeds that a press takes, from its creation on; several may have one moment."""
    moment = rng.choice((5, 1000, 315576000))
    deeds = [(moment, "move", first)]
    last, there, owners, moves = {}, [], {}, 0
    for number in range(count):
        moment += rng.choice((0, 0, 1, 1, 2, 60))
        told = rng.choice(tolds)
        word = rng.choice(("put", "put", "put", "put", "withdraw", "move"))
        if word == "move" and moves < 9:
            moves += 1
            deeds.append((moment, "move", f"{first}x{moves}"))
        if word == "move" or last.get(told, -1) >= moment or word == "withdraw" and told not in there:
            continue
        last[told] = moment
        if word == "withdraw":
            there.remove(told)
            deeds.append((moment, "withdraw", told))
            continue
        if told not in there:
            there.append(told)
        link = rng.choice((None, None, f"//h/{rng.choice('mno')}")) if links else None
        if owners.setdefault(link, told) != told:
            link = None
        fields = {"told": told, "link": link, "headline": rng.choice(("", "One", "Two")), "text": str(number),
                  "zone": rng.choice((0, 0, 60, 840))}
        deeds.append((moment, "put", fields))
    return deeds


def do(press, deeds):
    """Lets a press do these deeds, all but the first one, which is its creation."""
    for moment, word, *rest in deeds[1:]:
        if word == "put":
            press.put(moment, **rest[0])
        else:
            getattr(press, word)(moment, rest[0])
    return press
