"""What holds for every part of the program, promise [2], and the names of the interface."""

import copy
import enum
import importlib
import inspect
import unittest

from feedreader import addresses, dates
from feedreader.errors import BadAddress, BadDate, BadMoment, BadZone, FeedError

PARAMETERS = {
    "dates": {
        "is_moment": "(value)", "is_zone": "(value)", "is_date": "(value)", "date_of": "(moment, zone=0)",
        "moment_of": "(date)", "long_text": "(date)", "short_text": "(date)", "read_long": "(text)",
        "read_short": "(text)",
    },
    "addresses": {"is_address": "(value)", "resolve": "(base, text)", "shortest": "(base, address)"},
    "pages": {
        "Entry": "(*, told=None, link=None, headline='', text='', published=None, changed=None)",
        "Page": "(*, headline='', here=None, older=None, is_archive=False, entries=(), notices=())",
        "is_notice": "(value)",
    },
    "rows": {"write_rows": "(page, base=None)", "read_rows": "(text, base=None)"},
    "nest": {"write_nest": "(page, base=None)", "read_nest": "(text, base=None)"},
    "formats": {"read_feed": "(text, base=None)"},
    "presses": {"Press": "(address, moment, *, size=4, headline='')"},
    "worlds": {
        "World": "(rows)", "rows_of": "(pages, moment, *, style='rows', fresh=0)",
        "world_of": "(presses, *, style='rows', fresh=0, troubles=())",
    },
    "fetchers": {"Fetcher": "(world)", "Replay": "(log)"},
    "walks": {"walk": "(fetcher, address, moment, *, known=())"},
    "shelves": {"Shelf": "()", "growth": "(lesser, greater)"},
    "papers": {
        "why_one": "(shelf, one, other)", "why_two": "(shelf, one, other)", "shows": "(shelf, one, other, paper)",
    },
    "libraries": {"Library": "(device)"},
    "searches": {"is_query": "(value)", "search": "(library, query)"},
    "watches": {"Watch": "(library, query)"},
    "rivers": {"river": "(library, query, address, *, size=4)"},
    "plans": {
        "lost": "(windows, offers)", "cheapest": "(windows, offers)",
        "shows_cheapest": "(windows, offers, plan, pledges)",
    },
}
# Nothing is promised for objects that these are not made for.
UNTOLD = ("write_rows", "write_nest", "rows_of", "world_of", "Fetcher", "walk")
# Parameters of methods; None stands for a property.
METHODS = {
    "pages": {
        "Entry": dict.fromkeys("told link headline text published changed signs order".split()) | {"__eq__": "(self, other)"},
        "Page": dict.fromkeys("headline here older is_archive entries notices".split()) | {
            "__eq__": "(self, other)", "__bool__": "(self)"},
    },
    "presses": {
        "Press": dict.fromkeys("moments addresses address headline".split()) | {
            "put": "(self, moment, told, *, link=None, headline='', text='', zone=0)", "withdraw": "(self, moment, told)",
            "move": "(self, moment, address)", "page_at": "(self, address, moment)", "entries_at": "(self, moment)",
            "windows": "(self, goal)"},
    },
    "worlds": {"World": {"plain": "(self, address, moment)", "ask": "(self, address, moment, mark=None)"}},
    "fetchers": {
        "Fetcher": dict.fromkeys("asks received moves log".split()) | {"fetch": "(self, address, moment)"},
        "Replay": {"ask": "(self, address, moment, mark=None)"},
    },
    "walks": {"Walk": dict.fromkeys("here pages moves remarks word known".split())},
    "shelves": {
        "Shelf": dict.fromkeys("sightings moves".split()) | {
            "see": "(self, feed, thing, moment)", "learn": "(self, old, new)", "take_walk": "(self, walk)",
            "merged": "(self, *others)", "is_within": "(self, other)", "feed_of": "(self, address)",
            "all_items": "(self, *, gone=False)", "item_of": "(self, place)", "__or__": "(self, other)",
            "__contains__": "(self, place)", "__eq__": "(self, other)"},
        "Item": dict.fromkeys("feed places version time entries is_gone".split()),
    },
    "libraries": {
        "Library": dict.fromkeys("shelf notes".split()) | dict.fromkeys(
            "mark_read mark_unread star unstar reading_of is_starred".split(), "(self, place)") | {
            "take_walk": "(self, walk)", "see": "(self, feed, thing, moment)", "learn": "(self, old, new)",
            "file_feed": "(self, address, folder)", "take": "(self, *others)", "conflicts": "(self)",
            "folder_of": "(self, address)", "chain": "(self, stamp)", "trial": "(self, function)", "vector": "(self)",
            "bundle": "(self, vector)", "take_bundle": "(self, bundle)", "rows": "(self)", "counts": "(self)"},
    },
    "watches": {"Watch": {"result": None, "step": "(self)"}},
}
DATE = (123, 4, 9, 6, 7, 8, 330)


class Number(enum.IntEnum):
    """Integers that are ints, though of a class of their own."""

    MOMENT = 60
    ZONE = 30


class OverviewTest(unittest.TestCase):
    def test_names_and_parameters(self):
        for file, functions in PARAMETERS.items():
            module = importlib.import_module("feedreader." + file)
            for name, parameters in functions.items():
                function = getattr(module, name)
                self.assertEqual(str(inspect.signature(function)), parameters, name)
                self.assertEqual(function.__module__, "feedreader." + file, name)

    def test_truth_values_are_no_integers(self):
        for value in (True, False):
            self.assertIs(dates.is_moment(value), False)
            self.assertIs(dates.is_zone(value), False)
            with self.assertRaises(BadMoment):
                dates.date_of(value)
            with self.assertRaises(BadZone):
                dates.date_of(1, value)
            for place in range(7):
                date = (1,) * place + (value,) + (1,) * (6 - place)
                self.assertIs(dates.is_date(date), False)

    def test_every_other_int_is_an_integer(self):
        self.assertIs(dates.is_moment(Number.MOMENT), True)
        self.assertEqual(dates.date_of(Number.MOMENT, Number.ZONE), (1, 1, 1, 0, 31, 0, 30))

    def test_a_list_is_no_tuple(self):
        for call in (dates.moment_of, dates.long_text, dates.short_text):
            with self.assertRaises(BadDate):
                call(list(DATE))
        self.assertIs(dates.is_date(list(DATE)), False)

    def test_a_call_tells_the_same_after_errors(self):
        before = (dates.date_of(5, 60), addresses.shortest("//h/a", "//h/b"))
        for kind, call, values in (
            (BadMoment, dates.date_of, (-1, 5000)), (BadZone, dates.date_of, (5, 5000)), (BadDate, dates.date_of, (5, -60)),
            (BadAddress, addresses.shortest, (1, 2)), (BadAddress, addresses.resolve, ("", "a")),
        ):
            with self.assertRaises(kind):
                call(*values)
        self.assertEqual((dates.date_of(5, 60), addresses.shortest("//h/a", "//h/b")), before)

    def test_methods_stand_in_their_classes(self):
        for file, names in METHODS.items():
            for name, members in names.items():
                owner = vars(getattr(importlib.import_module("feedreader." + file), name))
                for member, parameters in members.items():
                    if parameters is None:
                        self.assertIsInstance(owner[member], property, member)
                    else:
                        self.assertEqual(str(inspect.signature(owner[member])), parameters, member)

    def test_nothing_passed_in_is_changed(self):
        for file, functions in PARAMETERS.items():
            for name in functions:
                if name in UNTOLD:
                    continue
                function = getattr(importlib.import_module("feedreader." + file), name)
                for value in ([1, 2], {"a": [1]}, list(DATE), [], (1, [2], 3, 4, 5, 6, 7)):
                    known = copy.deepcopy(value)
                    values = [value] * sum(p.default is p.empty for p in inspect.signature(function).parameters.values())
                    try:
                        function(*values)
                    except (BadMoment, BadDate, BadAddress) as error:
                        self.assertIs(error.given, value)
                    except FeedError:
                        pass
                    self.assertEqual(value, known)


if __name__ == "__main__":
    unittest.main()
