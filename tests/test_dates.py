"""Moments, zones and dates: promises [10] and [11]."""

import itertools
import unittest

from feedreader import dates
from feedreader.dates import LAST_MOMENT, date_of, is_date, is_moment, is_zone, moment_of
from feedreader.errors import BadDate, BadMoment, BadZone
from tests.calendar_oracle import FIRST_DAYS, LAST, LEAPS, local_time, year_length
from tests.objects import ODD_OBJECTS

ZONES = (-840, -839, -60, -1, 0, 1, 59, 60, 330, 839, 840)
NO_MOMENTS = ODD_OBJECTS + (-1, LAST_MOMENT + 1, 10 ** 12, -(10 ** 11), "0", [0], (0,), 0.0)
NO_ZONES = ODD_OBJECTS + (-841, 841, 10 ** 6, "0", [0], 0.0)
DATE = (123, 4, 9, 6, 7, 8, 330)


def replaced(date, place, value):
    """A date with another value at a place."""
    return date[:place] + (value,) + date[place + 1:]


class KindTest(unittest.TestCase):
    def test_last_moment(self):
        self.assertEqual(LAST_MOMENT, 315537638648)
        self.assertEqual(LAST_MOMENT, LAST)

    def test_moments(self):
        for value in (0, 1, 86400, LAST_MOMENT - 1, LAST_MOMENT):
            self.assertIs(is_moment(value), True)
        for value in NO_MOMENTS:
            self.assertIs(is_moment(value), False, value)

    def test_zones(self):
        for value in ZONES:
            self.assertIs(is_zone(value), True)
        for value in NO_ZONES:
            self.assertIs(is_zone(value), False, value)

    def test_dates(self):
        for value in (DATE, (1, 1, 1, 0, 0, 0, 0), (9999, 13, 29, 23, 59, 59, 0), (40, 13, 30, 23, 59, 60, 0)):
            self.assertIs(is_date(value), True, value)
        for value in ODD_OBJECTS + (list(DATE), DATE[:6], DATE + (0,), "123", "1234567", (DATE,), (None,) * 7):
            self.assertIs(is_date(value), False, value)

    def test_parts_of_other_kinds(self):
        for place in range(7):
            for value in (None, True, False, "1", 1.0, (1,), [1], DATE):
                for date in (DATE, (1, 1, 1, 1, 1, 1, 1)):
                    self.assertIs(is_date(replaced(date, place, value)), False, (place, value))

    def test_parts_at_their_ends_and_beyond(self):
        ends = ((1, 9999), (1, 13), (1, 28), (0, 23), (0, 59), (0, 59), (-840, 840))
        for place, (low, high) in enumerate(ends):
            for value in (low, high):
                self.assertIs(is_date(replaced(DATE, place, value)), True, (place, value))
            for value in (low - 1, high + 1, -10 ** 12, 10 ** 12):
                self.assertIs(is_date(replaced(DATE, place, value)), False, (place, value))

    def test_lengths_of_months(self):
        for year in (1, 3, 4, 5, 40, 127, 128, 129, 132, 256, 1280, 9996, 9998, 9999):
            for month in range(1, 14):
                last = 28 if month < 13 else year_length(year) - 336
                for day in (1, 28, 29, 30, 31):
                    self.assertIs(is_date((year, month, day, 12, 0, 0, 0)), day <= last, (year, month, day))

    def test_local_times_beside_all_moments(self):
        self.assertIs(is_date((1, 1, 1, 0, 0, 0, 1)), False)
        self.assertIs(is_date((1, 1, 1, 0, 1, 0, 1)), True)
        self.assertIs(is_date((1, 1, 1, 13, 59, 59, 840)), False)
        self.assertIs(is_date((1, 1, 1, 14, 0, 0, 840)), True)
        self.assertIs(is_date((1, 1, 1, 0, 0, 0, -840)), True)
        self.assertIs(is_date((9999, 13, 29, 23, 59, 59, 840)), True)
        self.assertIs(is_date((9999, 13, 29, 23, 59, 59, -1)), False)
        self.assertIs(is_date((9999, 13, 29, 23, 58, 59, -1)), True)
        self.assertIs(is_date((1, 1, 1, 0, 59, 60, 60)), False)
        self.assertIs(is_date((0, 13, 29, 23, 59, 0, -1)), False)
        self.assertIs(is_date((0, 13, 29, 23, 59, 59, 0)), False)
        self.assertIs(is_date((10000, 1, 1, 0, 0, 0, 0)), False)
        self.assertIs(is_date((10000, 1, 1, 0, 0, 59, 1)), False)
        self.assertIs(is_date((10000, 1, 1, 13, 59, 59, 840)), False)

    def test_leap_seconds_of_dates(self):
        last = (40, 13, 30, 23, 59, 60, 0)
        for year in (1, 39, 40, 41, 80, 100, 120, 128, 640, 1280, 9960, 9999):
            date = (year, 13, year_length(year) - 336, 23, 59, 60, 0)
            self.assertIs(is_date(date), year % 40 == 0, date)
        self.assertIs(is_date((640, 13, 29, 23, 59, 60, 0)), True)
        self.assertIs(is_date((640, 13, 30, 23, 59, 60, 0)), False)
        for place, value in ((0, 44), (1, 12), (2, 29), (3, 22), (4, 58), (5, 61), (6, 1), (6, -60)):
            self.assertIs(is_date(replaced(last, place, value)), False, (place, value))
        self.assertIs(is_date((41, 1, 1, 0, 0, 60, 1)), True)
        self.assertIs(is_date((41, 1, 1, 5, 29, 60, 330)), True)
        self.assertIs(is_date((40, 13, 30, 9, 59, 60, -840)), True)
        self.assertIs(is_date((41, 1, 1, 0, 0, 60, 0)), False)


class ThereAndBackTest(unittest.TestCase):
    def check(self, moment, zone):
        date = local_time(moment, zone)
        if date is None:
            with self.assertRaises(BadDate) as caught:
                date_of(moment, zone)
            self.assertEqual(caught.exception.given, (moment, zone))
        else:
            self.assertEqual(date_of(moment, zone), date)
            self.assertIs(is_date(date), True, date)
            self.assertEqual(moment_of(date), moment)

    def test_first_and_last_moments(self):
        self.assertEqual(date_of(0), (1, 1, 1, 0, 0, 0, 0))
        self.assertEqual(date_of(LAST_MOMENT), (9999, 13, 29, 23, 59, 59, 0))
        self.assertEqual(moment_of((1, 1, 1, 0, 0, 0, 0)), 0)
        self.assertEqual(moment_of((9999, 13, 29, 23, 59, 59, 0)), LAST_MOMENT)
        self.assertEqual(date_of(0, 840), (1, 1, 1, 14, 0, 0, 840))
        self.assertEqual(date_of(LAST_MOMENT, -1), (9999, 13, 29, 23, 58, 59, -1))

    def test_plain_moments(self):
        self.assertEqual(date_of(86399), (1, 1, 1, 23, 59, 59, 0))
        self.assertEqual(date_of(86400, 330), (1, 1, 2, 5, 30, 0, 330))
        self.assertEqual(date_of(28 * 86400, -1), (1, 1, 28, 23, 59, 0, -1))
        self.assertEqual(date_of(364 * 86400), (1, 13, 29, 0, 0, 0, 0))
        self.assertEqual(date_of(365 * 86400), (2, 1, 1, 0, 0, 0, 0))
        self.assertEqual(date_of(4 * 365 * 86400), (4, 13, 30, 0, 0, 0, 0))

    def test_seconds_beside_a_leap_second(self):
        leap = LEAPS[0]
        self.assertEqual(date_of(leap - 1), (40, 13, 30, 23, 59, 59, 0))
        self.assertEqual(date_of(leap), (40, 13, 30, 23, 59, 60, 0))
        self.assertEqual(date_of(leap + 1), (41, 1, 1, 0, 0, 0, 0))
        self.assertEqual(date_of(leap - 1, 330), (41, 1, 1, 5, 29, 59, 330))
        self.assertEqual(date_of(leap, 330), (41, 1, 1, 5, 29, 60, 330))
        self.assertEqual(date_of(leap + 1, 330), (41, 1, 1, 5, 30, 0, 330))
        self.assertEqual(date_of(leap, -1), (40, 13, 30, 23, 58, 60, -1))
        self.assertEqual(date_of(leap + 1, -1), (40, 13, 30, 23, 59, 0, -1))

    def test_all_ends_of_years(self):
        leaps = dict.fromkeys(LEAPS)
        for year in range(1, 10001):
            begin = 86400 * FIRST_DAYS[year - 1] + (year - 1) // 40
            self.assertIs(begin - 1 in leaps, year % 40 == 1 and year > 1)
            for step, zone in ((-61, 0), (-2, 1), (-1, 0), (0, 0), (0, -840), (1, 840)):
                if 0 <= begin + step <= LAST:
                    self.check(begin + step, zone)

    def test_all_leap_seconds_in_zones(self):
        for leap in LEAPS:
            for zone, step in itertools.product(ZONES, (-60, -1, 0, 1, 60)):
                self.check(leap + step, zone)

    def test_ends_of_months_and_days_far_and_near(self):
        for year in (1, 2, 4, 40, 127, 128, 129, 640, 5000, 9998, 9999):
            for day in list(range(27, 366, 28)) + [363, 364]:
                for step, zone in itertools.product((-1, 0, 1, 43200), ZONES):
                    self.check(86400 * (FIRST_DAYS[year - 1] + day) + (year - 1) // 40 + step, zone)

    def test_many_moments(self):
        for moment in range(0, LAST, LAST // 20011):
            for zone in ZONES:
                self.check(moment, zone)

    def test_ends_of_all_moments_in_zones(self):
        for zone in ZONES:
            for step in (0, 1, 59, 60, 61, 60 * abs(zone), abs(60 * zone - 1), abs(60 * zone) + 1):
                self.check(step, zone)
                self.check(LAST_MOMENT - step, zone)

    def test_dates_are_those_of_moments_and_in_their_order(self):
        for around, zone in itertools.product((LEAPS[0], LEAPS[248], LEAPS[0] + 86400 * 365, 5, LAST - 5), (-840, -1, 0, 90)):
            moments = [m for m in range(around - 70, around + 71) if 0 <= m <= LAST]
            told = [local_time(moment, zone) for moment in moments]
            pairs = [(date, moment) for date, moment in zip(told, moments) if date is not None]
            self.assertEqual(pairs, sorted(pairs))
            known = dict(pairs)
            for hours in {date[:5] for date in known}:
                for second in range(62):
                    date = hours + (second, zone)
                    if date in known:
                        self.assertEqual(moment_of(date), known[date])
                    elif is_date(date):
                        self.assertNotIn(moment_of(date), moments)


class ErrorOrderTest(unittest.TestCase):
    def raised(self, kind, call, *values, **named):
        with self.assertRaises(kind) as caught:
            call(*values, **named)
        return caught.exception.given

    def test_no_moment(self):
        for value in NO_MOMENTS:
            self.assertIs(self.raised(BadMoment, date_of, value), value)
            self.assertIs(self.raised(BadMoment, date_of, value, 841), value)

    def test_no_zone(self):
        for value in NO_ZONES:
            self.assertIs(self.raised(BadZone, date_of, 0, value), value)
            self.assertIs(self.raised(BadZone, date_of, zone=value, moment=LAST_MOMENT), value)

    def test_local_year_beside_all_years(self):
        for pair in ((0, -1), (59, -1), (50399, -840), (LAST_MOMENT, 1), (LAST_MOMENT - 59, 1), (LAST_MOMENT, 840)):
            self.assertEqual(self.raised(BadDate, date_of, *pair), pair)
        self.assertEqual(date_of(60, -1), (1, 1, 1, 0, 0, 0, -1))
        self.assertEqual(date_of(LAST_MOMENT - 60, 1), (9999, 13, 29, 23, 59, 59, 1))

    def test_no_date(self):
        for value in ODD_OBJECTS + (list(DATE), DATE[:6], replaced(DATE, 5, 60), (1, 1, 1, 0, 0, 0, 1)):
            self.assertIs(self.raised(BadDate, moment_of, value), value)

    def test_names_of_parameters(self):
        self.assertEqual(date_of(moment=0), date_of(0, 0))
        self.assertEqual(date_of(moment=0, zone=5), date_of(0, 5))
        self.assertEqual(moment_of(date=DATE), moment_of(DATE))
        for call in (dates.is_moment, dates.is_zone, dates.is_date):
            self.assertIs(call(value=None), False)


if __name__ == "__main__":
    unittest.main()
