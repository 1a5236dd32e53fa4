"""The whole program: presses, worlds, fetchers, walks, shelves, libraries, searches, watches, rivers and plans together."""

import random

from feedreader.dates import moment_of
from feedreader.errors import Gap
from feedreader.fetchers import Fetcher, Replay
from feedreader.formats import read_feed
from feedreader.libraries import Library
from feedreader.nest import write_nest
from feedreader.papers import shows, why_one, why_two
from feedreader.plans import cheapest, lost, shows_cheapest
from feedreader.pages import Entry, Page
from feedreader.presses import Press
from feedreader.rivers import river
from feedreader.rows import write_rows
from feedreader.searches import search
from feedreader.shelves import Shelf, growth
from feedreader.walks import walk
from feedreader.watches import Watch
from feedreader.worlds import World, rows_of, world_of
from tests.cases import RefusalCase
from tests.press_oracle import do, some_deeds
from tests.query_oracle import some_query
from tests.test_fetchers import tells
from tests.test_libraries import all_of
from tests.test_walks import all_of as all_of_walk
from tests.test_watches import done

DEVICES = ("a", "b", "c")


def some_press(rng, name, count=20):
    """A random press at an address with this name."""
    deeds = some_deeds(rng, count, first=f"//{name}/p")
    return do(Press(f"//{name}/p", deeds[0][0], size=rng.choice((1, 2, 4)), headline=name), deeds)


def some_world(rng, style, press):
    """The world of a press in a format, with some troubles."""
    troubles = []
    for number in range(rng.choice((0, 2))):
        begin = press.moments[0] + rng.randrange(20)
        laid = (press.addresses[-1], begin + 100 * number, begin + 100 * number + 5, rng.choice((("down",), ("busy", 3))))
        if len(press.addresses) == 1:
            troubles.append(laid)
    return world_of((press,), style=style, fresh=rng.choice((0, 0, 2)), troubles=tuple(troubles))


def had_at(press, moment):
    """The addresses that a press has had till a moment."""
    return [address for address in press.addresses if press.page_at(address, moment) is not None]


class ReaderTest(RefusalCase):
    def test_readers_of_a_press(self):
        rng = random.Random(1)
        for number in range(40):
            press = some_press(rng, "h", rng.choice((10, 30)))
            world = some_world(rng, ("rows", "nest")[number % 2], press)
            libraries = [Library(device) for device in DEVICES]
            fetchers = [Fetcher(world) for _ in DEVICES]
            watches = [(library, query, Watch(library, query)) for library in libraries for query in (("and",), some_query(rng, 2))]
            sent = []
            for moment in sorted(rng.choices(range(press.moments[0], press.moments[-1] + 10), k=12)):
                at = rng.randrange(len(DEVICES))
                library, fetcher = libraries[at], fetchers[at]
                before = library.shelf
                told = walk(fetcher, rng.choice(had_at(press, moment)), moment)
                library.take_walk(told)
                self.check_growth(before, library.shelf)
                self.check_walk(press, library, told, moment)
                self.note_something(rng, library)
                self.exchange(rng, libraries, sent)
                for owner, query, watch in rng.sample(watches, 3):
                    old = watch.result
                    left, came = watch.step()
                    self.assertEqual((done(old, left, came), watch.result), (search(owner, query),) * 2)
            self.check_exchange(libraries)
            self.check_papers(rng, libraries[0].shelf)

    def check_walk(self, press, library, told, moment):
        """Checks [56] and [63] for a walk that has just been taken."""
        if told.word != "whole" or any(row[2] != moment for row in told.pages):
            return
        self.assertEqual([page for _, page, _ in told.pages], [press.page_at(address, moment) for address, _, _ in told.pages])
        self.assertEqual(told.remarks, ())
        entries = press.entries_at(moment)
        items = [item for item in library.shelf.all_items() if told.here in item.feed]
        if all(row[2] <= moment for row in library.shelf.sightings):
            self.assertEqual(sorted(item.version.order for item in items), sorted(entry.order for entry in entries))

    def check_growth(self, lesser, greater):
        """Checks the facts of [61] and [64]."""
        told = growth(lesser, greater)
        firsts = [item.places[0] for gone in (False, True) for item in lesser.all_items(gone=gone)]
        self.assertEqual(sorted(place for row in told for place in row[0]), sorted(firsts))
        self.assertTrue(lesser.is_within(greater))

    def note_something(self, rng, library):
        """Writes some notes in a library."""
        rows = library.rows()
        for row in rng.sample(rows, min(2, len(rows))):
            place = (row[5][0],) + row[0].signs[0]
            rng.choice((library.mark_read, library.mark_read, library.mark_unread, library.star, library.unstar))(place)
        if rows and rng.random() < 0.3:
            library.file_feed(rng.choice(rows)[5][0], rng.choice(("f", "g", None)))

    def exchange(self, rng, libraries, sent):
        """Sends a bundle from one library to another one; it may be lost, come late or twice."""
        one, other = rng.sample(libraries, 2)
        sent.append((one, other.bundle(one.vector())))
        for library, bundle in rng.sample(sent, min(2, len(sent))):
            try:
                library.take_bundle(bundle)
            except Gap:
                pass

    def check_exchange(self, libraries):
        """Checks [73] and [86]: what libraries come to does not depend on the way."""
        one, other, third = Library("x"), Library("y"), Library("z")
        one.take(*libraries)
        for library in libraries[::-1]:
            other.take(library)
            third.take_bundle(library.bundle(third.vector()))
            third.take_bundle(library.bundle({}))
        self.assertEqual(all_of(one), all_of(other))
        self.assertEqual(all_of(one), all_of(third))
        shelf = libraries[0].shelf | libraries[1].shelf | libraries[2].shelf
        self.assertEqual(one.shelf, shelf)

    def check_papers(self, rng, shelf):
        """Checks [65] for some sightings."""
        sightings = [row[:2] for row in shelf.sightings if isinstance(row[1], Entry)]
        for _ in range(5 if sightings else 0):
            left, right = rng.choice(sightings), rng.choice(sightings)
            one, two = why_one(shelf, left, right), why_two(shelf, left, right)
            self.assertEqual([one is None, two is None].count(True), 1)
            self.assertEqual(shows(shelf, left, right, one or two), "two" if one is None else "one")

    def test_replays_of_walks(self):
        rng = random.Random(2)
        for number in range(30):
            press = some_press(rng, "h")
            fetcher = Fetcher(some_world(rng, ("rows", "nest")[number % 2], press))
            moments = sorted(rng.choices(range(press.moments[0], press.moments[-1] + 10), k=8))
            firsts = [rng.choice(had_at(press, moment)) for moment in moments]
            walks = [all_of_walk(walk(fetcher, first, moment)) for first, moment in zip(firsts, moments)]
            other = Fetcher(Replay(fetcher.log))
            self.assertEqual([all_of_walk(walk(other, first, moment)) for first, moment in zip(firsts, moments)], walks)
            self.assertEqual(tells(other), tells(fetcher))

    def test_a_fetcher_asks_no_more_than_new_ones(self):
        rng = random.Random(3)
        for number in range(30):
            press = some_press(rng, "h")
            world = some_world(rng, ("rows", "nest")[number % 2], press)
            fetcher = Fetcher(world)
            for moment in sorted(rng.choices(range(press.moments[0], press.moments[-1] + 10), k=8)):
                asks, received = fetcher.asks, fetcher.received
                first = rng.choice(had_at(press, moment))
                told = walk(fetcher, first, moment)
                for place, page, at in told.pages:
                    self.assertEqual(read_feed(world.plain(place, at)[1], place)[0], page)
                if len(told.pages) == 1:
                    new = Fetcher(world)
                    walk(new, first, moment)
                    self.assertTrue(fetcher.asks - asks <= new.asks and fetcher.received - received <= new.received)


class PassageTest(RefusalCase):
    def test_pages_pass_from_one_format_to_another(self):
        rng = random.Random(33)
        for _ in range(20):
            press = some_press(rng, "h")
            for address in press.page_addresses():
                page = press.page_at(address, press.moments[-1])
                if not isinstance(page, Page):
                    continue
                texts = [write_rows(page, address), write_nest(page, address)]
                for _ in range(3):
                    base = rng.choice((None, "//other/x", address))
                    told = [read_feed(text, base_of) for text, base_of in zip(texts, (address, address))]
                    self.assertEqual(told, [(page, ()), (page, ())])
                    text = rng.choice((write_rows, write_nest))(told[0][0], base)
                    self.assertEqual(read_feed(text, base), (page, ()))
                    texts = [write_rows(read_feed(text, base)[0], address), write_nest(read_feed(text, base)[0], address)]

    def test_facts_of_pages(self):
        rng = random.Random(43)
        for _ in range(20):
            press = some_press(rng, "h")
            for moment in press.moments:
                pages = [press.page_at(address, moment) for address in press.page_addresses()]
                pages = [page for page in pages if isinstance(page, Page)]
                newest = {}
                for entry in [entry for page in pages for entry in page.entries]:
                    kept = newest.setdefault(entry.told, entry)
                    if moment_of(entry.changed) > moment_of(kept.changed):
                        newest[entry.told] = entry
                for entry in press.entries_at(moment):
                    self.assertEqual(newest[entry.told], entry)
                for _, told, date in pages[0].notices:
                    self.assertTrue(told not in newest or moment_of(newest[told].changed) < moment_of(date))


class PlanTest(RefusalCase):
    def seen(self, world, press, moments):
        """The entries that a reader sees that walks a press's feed at these moments."""
        fetcher, shelf = Fetcher(world), Shelf()
        for moment in moments:
            told = walk(fetcher, press.addresses[0], moment)
            self.assertEqual((told.word, [row[2] for row in told.pages]), ("whole", [moment] * len(told.pages)))
            shelf.take_walk(told)
        return [row[1] for row in shelf.sightings if isinstance(row[1], Entry)]

    def test_readers_that_follow_plans(self):
        rng = random.Random(82)
        for number in range(60):
            deeds = some_deeds(rng, rng.choice((10, 40)), first="//h/p")
            press = do(Press("//h/p", deeds[0][0], size=rng.choice((1, 2))), deeds)
            puts = [(moment, rest[0]["text"]) for moment, word, *rest in deeds if word == "put"]
            world = world_of((press,), style=("rows", "nest")[number % 2])
            goal = press.moments[-1] + 5
            windows = press.windows(goal)
            moments = sorted(rng.sample(range(press.moments[0], goal + 1), rng.randrange(1, min(8, goal - press.moments[0]))))
            offers = tuple((moment, rng.randrange(1, 10)) for moment in moments)
            plan, pledges = cheapest(windows, offers)
            self.assertIs(shows_cheapest(windows, offers, plan, pledges), True)
            self.assertEqual(sum(dict(offers)[moment] for moment in plan), sum(pledges))
            for asked in (plan, tuple(moments)):
                entries = self.seen(world, press, asked)
                archived = {entry.text for moment in asked for address in press.page_addresses() if "/old/" in address
                            for page in [press.page_at(address, moment)] if isinstance(page, Page) for entry in page.entries}
                has = {text for (begin, end), (_, text) in zip(windows, puts) if any(begin <= moment < end for moment in asked)}
                self.assertEqual({entry.text for entry in entries}, has | archived)
            gone = lost(windows, offers)
            for at, (_, text) in enumerate(puts):
                self.assertEqual(at not in gone, any(windows[at][0] <= moment < windows[at][1] for moment in moments))
                if at not in gone:
                    self.assertIn(text, {entry.text for entry in self.seen(world, press, plan)})


class RiverTest(RefusalCase):
    def test_rivers_of_several_presses(self):
        rng = random.Random(87)
        for number in range(25):
            style = ("rows", "nest")[number % 2]
            presses = tuple(some_press(rng, name) for name in ("h", "g"))
            world = world_of(presses, style=style)
            library = Library("a")
            goal = max(press.moments[-1] for press in presses) + 5
            fetcher = Fetcher(world)
            for press in presses:
                library.take_walk(walk(fetcher, press.addresses[0], goal))
            self.assertEqual(len(library.rows()), sum(len(press.entries_at(goal)) for press in presses))
            pages = river(library, ("and",), "//r/x/y", size=2)
            downstream = Fetcher(World(rows_of(pages, goal, style=style)))
            other = Library("b")
            told = walk(downstream, "//r/x/y", goal)
            self.assertEqual(([row[:2] for row in told.pages], told.word), (list(pages), "whole"))
            self.assertEqual(told.known, tuple(sorted(place for place, _ in pages[1:])))
            other.take_walk(told)
            watch = Watch(other, ("not", ("reading", "read")))
            self.assertEqual(len(watch.step()[1]), len(other.rows()))
            for row in other.rows():
                self.assertEqual((row[2:5], row[5], row[1]), (("unread", False, None), ("//r/x/y",), moment_of(row[0].changed)))
                other.mark_read((row[5][0],) + row[0].signs[0])
            self.assertEqual((watch.step()[1], watch.result), ((), ()))
            for press in presses:
                [feed] = {row[5] for row in library.rows() if press.address in row[5]} or [None]
                if feed is not None:
                    again = river(library, ("feed", press.address), "//r/one", size=1)
                    shelf = Shelf()
                    shelf.take_walk(walk(Fetcher(World(rows_of(again, goal, style=style))), "//r/one", goal))
                    rows = search(library, ("feed", press.address))
                    self.assertEqual([(item.version.told, item.version.text, item.time) for item in shelf.all_items()],
                                     [(row[0].told, row[0].text, row[1]) for row in rows])
