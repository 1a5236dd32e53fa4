"""The long and the short text of a date: promises [12] and [13]."""

import itertools
import re
import unittest

from feedreader.dates import LAST_MOMENT, date_of, is_date, long_text, moment_of, read_long, read_short, short_text
from feedreader.errors import BadDate
from tests.calendar_oracle import FIRST_DAYS, LEAPS, MONTHS, WEEKDAYS
from tests.objects import NO_STRINGS, ODD_OBJECTS

DATE = (123, 4, 9, 6, 7, 8, 330)
LONG = "Be 9 Elm 123 06:07:08 +05:30"
SHORT = "123/093@06:07:08+05:30"
NOTHING = (None, False)
TEXTS = (
    ((1, 1, 1, 0, 0, 0, 0), "Ar 1 Ash 1 00:00:00 Z", "1/001@00:00:00Z"),
    (DATE, LONG, SHORT),
    ((9999, 13, 29, 23, 59, 59, 0), "Rest 29 Yew 9999 23:59:59 Z", "9999/365@23:59:59Z"),
    ((4, 13, 30, 10, 20, 30, -1), "Rest 30 Yew 4 10:20:30 -00:01", "4/366@10:20:30-00:01"),
    ((40, 13, 30, 23, 59, 60, 0), "Rest 30 Yew 40 23:59:60 Z", "40/366@23:59:60Z"),
    ((41, 1, 1, 5, 29, 60, 330), "Ar 1 Ash 41 05:29:60 +05:30", "41/001@05:29:60+05:30"),
    ((2026, 13, 28, 9, 0, 0, 840), "Gi 28 Yew 2026 09:00:00 +14:00", "2026/364@09:00:00+14:00"),
    ((100, 12, 10, 0, 10, 0, -840), "Co 10 Willow 100 00:10:00 -14:00", "100/318@00:10:00-14:00"),
    ((55, 2, 28, 1, 1, 1, -599), "Gi 28 Birch 55 01:01:01 -09:59", "55/056@01:01:01-09:59"),
)

ZONE_FORM = "([+-])([0-9]{2}):([0-5][0-9])"
LONG_FORM = f" *(?:([a-z]+) +)?([1-9][0-9]?) +([a-z]+) +([1-9][0-9]*) +([0-9:]+)(?: +(?:z|{ZONE_FORM}))? *"
SHORT_FORM = f"([1-9][0-9]*)/([0-9]{{3}})@([0-9:]+)(?:Z|{ZONE_FORM})"
TIME_FORM = "([0-9]{2}):([0-9]{2})(?::([0-9]{2}))?"


def date_told(year, month, day, time, sign, hours, minutes):
    """The date of the pieces of a text, None if there is none."""
    told = re.fullmatch(TIME_FORM, time)
    zone = 60 * int(hours) + int(minutes) if sign else 0
    if told is None or sign and zone == 0:
        return None
    date = (int(year), month, int(day)) + tuple(int(part or 0) for part in told.groups()) + (-zone if sign == "-" else zone,)
    return date if is_date(date) else None


def long_told(text):
    """What a long text tells, by a pattern."""
    found = re.fullmatch(LONG_FORM, text.lower())
    if found is None:
        return NOTHING
    weekday, day, word, year, time, *zone = found.groups()
    months = [number for number, name in enumerate(MONTHS, 1) if len(word) > 2 and name.lower().startswith(word)]
    names = [name.lower() for name in WEEKDAYS] + ["rest"]
    if not months or weekday is not None and weekday not in names:
        return NOTHING
    date = date_told(year, months[0], day, time, *zone)
    if date is None:
        return NOTHING
    true = names[(date[2] - 1) % 7 if date[2] < 29 else 7]
    return (date, weekday is not None and weekday != true)


def short_told(text):
    """What a short text tells, by a pattern."""
    found = re.fullmatch(SHORT_FORM, text)
    if found is None or found.group(3).count(":") != 2:
        return None
    year, number, time, *zone = found.groups()
    month = min((int(number) - 1) // 28 + 1, 13)
    return date_told(year, month, int(number) - 28 * (month - 1), time, *zone)


def neighbours(text):
    """All texts in which one character is left out, put in or another one."""
    signs = [chr(code) for code in range(32, 127) if chr(code) != "\x25"] + ["\n"]
    for place in range(len(text) + 1):
        for sign in signs:
            yield text[:place] + sign + text[place:]
            yield text[:place] + sign + text[place + 1:]
        yield text[:place] + text[place + 1:]


class WriteTest(unittest.TestCase):
    def test_texts(self):
        for date, long, short in TEXTS:
            self.assertEqual((long_text(date), short_text(date)), (long, short))

    def test_words_of_each_month_and_day(self):
        for month, day in itertools.product(range(1, 14), range(1, 31)):
            if day > 28 and month < 13:
                continue
            weekday = WEEKDAYS[(day - 1) % 7] if day <= 28 else "Rest"
            number = (month - 1) * 28 + day
            date = (8, month, day, 0, 0, 0, 0)
            self.assertEqual(long_text(date), f"{weekday} {day} {MONTHS[month - 1]} 8 00:00:00 Z")
            self.assertEqual(short_text(date), f"8/{number:03}@00:00:00Z")

    def test_digits_of_each_zone(self):
        for zone in range(-840, 841):
            sign = "+" if zone > 0 else "-"
            written = f"{sign}{abs(zone) // 60:02}:{abs(zone) % 60:02}" if zone else "Z"
            date = (55, 6, 7, 8, 9, 10, zone)
            self.assertEqual(long_text(date), f"Gi 7 Hazel 55 08:09:10 {written}")
            self.assertEqual(short_text(date), f"55/147@08:09:10{written}")
            self.assertEqual(read_long(long_text(date)), (date, False))
            self.assertEqual(read_short(short_text(date)), date)

    def test_no_date(self):
        for value in ODD_OBJECTS + (list(DATE), DATE[:6], LONG, SHORT, (1, 1, 1, 0, 0, 0, 1), (39, 13, 29, 23, 59, 60, 0)):
            for write in (long_text, short_text):
                with self.assertRaises(BadDate) as caught:
                    write(value)
                self.assertIs(caught.exception.given, value)

    def test_names_of_parameters(self):
        self.assertEqual((long_text(date=DATE), short_text(date=DATE)), (LONG, SHORT))
        self.assertEqual((read_long(text=LONG), read_short(text=SHORT)), ((DATE, False), DATE))

    def test_what_is_written_is_read(self):
        moments = list(range(0, LAST_MOMENT, LAST_MOMENT // 3001)) + LEAPS + [LEAPS[0] - 1, LEAPS[0] + 1]
        moments += [86400 * day + (year - 1) // 40 for year, day in enumerate(FIRST_DAYS[:400], start=1)]
        for moment, zone in itertools.product(moments, (0, -90, 59)):
            if 6000 < moment < LAST_MOMENT - 6000:
                date = date_of(moment, zone)
                self.assertEqual(read_long(long_text(date)), (date, False))
                self.assertEqual(read_short(short_text(date)), date)


class LenientTest(unittest.TestCase):
    def check(self, text, date, lies=False):
        self.assertEqual(read_long(text), (date, lies), text)

    def check_none(self, *texts):
        for text in texts:
            self.assertEqual(read_long(text), NOTHING, text)

    def test_example(self):
        self.check("gi 9 ELM 123 06:07", (123, 4, 9, 6, 7, 0, 0), True)

    def test_spaces(self):
        for text in (" " + LONG, LONG + " ", "   " + LONG + "   ", LONG.replace(" ", "  "), LONG.replace(" ", "     ")):
            self.check(text, DATE)
        self.check_none(LONG.replace(" ", "\n"), LONG + "\n", "\n" + LONG, LONG.replace(" ", "\t"), "Be\n" + LONG[3:])
        self.check_none("Be9 Elm 123 06:07:08 +05:30", "Be 9Elm 123 06:07:08 +05:30", "Be 9 Elm123 06:07:08 +05:30")
        self.check_none("Be 9 Elm 123 06:07:08+05:30", "Be 9 Elm 123 06:07:08Z", "Be 9 Elm 123 06 :07:08 Z")
        self.check_none("Be 9 Elm 123 06:07:08 + 05:30", "Be 9 Elm 123 06:07:08 +05: 30", "B e 9 Elm 123 06:07:08 Z")

    def test_weekdays(self):
        plain = LONG[3:]
        self.check(plain, DATE)
        for word in WEEKDAYS + ["Rest"]:
            for cased in (word, word.lower(), word.upper(), word.swapcase()):
                self.check(cased + " " + plain, DATE, word != "Be")
        for day, true in ((28, "Gi"), (29, "Rest"), (30, "Rest")):
            for word in WEEKDAYS + ["Rest"]:
                self.check(f"{word} {day} Yew 4 00:00", (4, 13, day, 0, 0, 0, 0), word != true)
        for word in ("B", "Bee", "Res", "Rests", "re", "Be,", "Be.", "Mo", "Ash", "1", "-", "be be", "Ar Be"):
            self.check_none(word + " " + plain)
        self.check_none("9 Be Elm 123 06:07:08 +05:30", "9 Elm 123 06:07:08 +05:30 Be")

    def test_months(self):
        for number, name in enumerate(MONTHS, start=1):
            for length in range(3, len(name) + 1):
                for word in (name[:length], name[:length].lower(), name[:length].upper(), name[:length].swapcase()):
                    self.check(f"9 {word} 123 06:07:08 Z", (123, number, 9, 6, 7, 8, 0))
            for word in (name[:1], name[:2], name[1:], name + "s", name + ".", name[:3] + "x", str(number)):
                self.check_none(f"9 {word} 123 06:07:08 Z")

    def test_seconds_may_lack(self):
        self.check("Be 9 Elm 123 06:07 +05:30", (123, 4, 9, 6, 7, 0, 330))
        self.check("9 elm 123 23:59", (123, 4, 9, 23, 59, 0, 0))
        self.check_none("9 Elm 123 06", "9 Elm 123 06:", "9 Elm 123 06:07:", "9 Elm 123 :07", "9 Elm 123 06:07: Z")
        self.check_none("9 Elm 123 0607", "9 Elm 123 06:07:08:09", "9 Elm 123 06:07::08", "9 Elm 123 06.07.08")

    def test_zone_may_lack(self):
        self.check("Be 9 Elm 123 06:07:08", (123, 4, 9, 6, 7, 8, 0))
        for word in ("Z", "z"):
            self.check("Be 9 Elm 123 06:07:08 " + word, (123, 4, 9, 6, 7, 8, 0))
        self.check("Be 9 Elm 123 06:07:08 -14:00", (123, 4, 9, 6, 7, 8, -840))
        words = (
            "+00:00", "-00:00", "00:00", "+05:60", "+04:90", "+14:01", "-14:01", "+15:00", "05:30", "+5:30", "+05:3",
            "+0530", "+05", "+05:300", "+005:30", "=05:30", "+05-30", "+-5:30", "+05:-3", "ZZ", "Z+05:30", "UTC", "+",
            "-", ":", "+05.30", "++05:30", "+05:30Z", "+ 05:30", "+1:030", "0",
        )
        for word in words:
            self.check_none("Be 9 Elm 123 06:07:08 " + word, "9 Elm 123 06:07 " + word)

    def test_digits(self):
        self.check("1 Elm 1 00:00", (1, 4, 1, 0, 0, 0, 0))
        self.check("28 Elm 9999 00:00", (9999, 4, 28, 0, 0, 0, 0))
        for day in ("09", "0", "00", "29", "31", "009", "-9", "+9", "9.", "9th", "x", "1_0", "100", "999999999999"):
            self.check_none(f"{day} Elm 123 06:07:08 Z")
        for year in ("0123", "0", "-1", "+1", "10000", "99999", "1_0", "1e3", "year", "012", "999999999999"):
            self.check_none(f"9 Elm {year} 06:07:08 Z")
        for time in ("6:07:08", "06:7:08", "06:07:8", "006:07:08", "06:007:08", "24:00:00", "06:60:00", "-6:07:08",
                     "06:07:60", "06:07:61", "06:07:99", "+6:07", "6:07", "06:7", "06:07:0", "06:07:008", "0 6:07"):
            self.check_none(f"9 Elm 123 {time} Z")
        self.check_none("9" * 5000 + " Elm 123 06:07", "9 Elm " + "9" * 5000 + " 06:07", "9 Elm 1 06:07 +" + "0" * 5000)

    def test_times_that_no_day_has(self):
        self.check("30 Yew 40 23:59:60", (40, 13, 30, 23, 59, 60, 0))
        self.check("rest 30 yew 40 23:59:60 z", (40, 13, 30, 23, 59, 60, 0))
        self.check("ar 1 ash 41 05:29:60 +05:30", (41, 1, 1, 5, 29, 60, 330))
        self.check_none("29 Yew 40 23:59:60", "30 Yew 44 23:59:60", "30 Yew 40 23:58:60", "30 Yew 40 23:59:60 +05:30")
        self.check_none("29 Yew 39 23:59:60 Z", "30 Yew 41 00:00", "30 Yew 128 00:00", "29 Oak 4 00:00", "30 Yew 9999 00:00")
        self.check_none("1 Ash 1 00:00 +00:01", "29 Yew 9999 23:59 -00:01")
        self.check("1 Ash 1 00:00 -00:01", (1, 1, 1, 0, 0, 0, -1))

    def test_lies_only_beside_a_date(self):
        self.check_none("Gi 29 Elm 123 06:07", "Ar 9 Elm 0 06:07", "Gi 9 Elm 123 06:07 +00:00")

    def test_other_orders_and_numbers_of_words(self):
        words = LONG.split(" ")
        for order in itertools.permutations(words):
            if list(order) != words:
                self.check_none(" ".join(order))
        self.check_none("", " ", "Be", "9 Elm 123", "Be 9 Elm 123", "9 Elm 06:07", LONG + " Z", LONG + " x", "x " + LONG)
        self.check_none(LONG + " " + LONG, SHORT, LONG.replace(" ", ", "), "Be 9 Elm 123 +05:30")

    def test_neighbours(self):
        for base in (LONG, "rest 30 yew 40 23:59:60 z", "1 ash 1 00:00", "gi 28 Wil 9999 23:59 -14:00"):
            for text in neighbours(base):
                self.assertEqual(read_long(text), long_told(text), text)

    def test_no_string(self):
        for value in NO_STRINGS:
            self.assertEqual(read_long(value), NOTHING)
            self.assertIsNone(read_short(value))


class ShortTest(unittest.TestCase):
    def test_texts(self):
        for date, _, text in TEXTS:
            self.assertEqual(read_short(text), date)

    def test_exactly_as_written(self):
        texts = (
            "", " ", "/", "@", "/@", LONG, " " + SHORT, SHORT + " ", SHORT + "\n", "\n" + SHORT, SHORT.replace("@", " @"),
            "0123/093@06:07:08+05:30", "123/93@06:07:08+05:30", "123/0093@06:07:08+05:30", "123/093@6:07:08+05:30",
            "123/093@06:07+05:30", "123/093@06:07:08", "123/093@06:07:08 +05:30", "123/093@06:07:08z",
            "123/093@06:07:08+00:00", "123/093@06:07:08-00:00", "123/093@06:07:08+05:60", "123/093@06:07:08+14:01",
            "123/093@06:07:08+5:30", "123/093@06:07:08+0530", "123/093@06:07:08+05:30Z", "123/093@06:07:08ZZ",
            "123/093 06:07:08Z", "123/093T06:07:08Z", "123-093@06:07:08Z", "123/093@060708Z", "123/093@06:07:08:09Z",
            "/093@06:07:08Z", "123/@06:07:08Z", "123/093@Z", "123/093@", "123/093", "123", "+123/093@06:07:08Z",
            "123/+93@06:07:08Z", "123/-93@06:07:08Z", "123/093@+6:07:08Z", "1_3/093@06:07:08Z", "123/093/1@06:07:08Z",
            "123/093@06:07:08@Z", "123/4/9@06:07:08Z", "123 /093@06:07:08Z", "123/093@06:07:8 Z", "Elm/093@06:07:08Z",
        )
        for text in texts:
            self.assertIsNone(read_short(text), text)
        self.assertEqual(read_short("123/093@06:07:08Z"), DATE[:6] + (0,))

    def test_neighbours(self):
        for base in (SHORT, "40/366@23:59:60Z", "1/001@00:00:00-14:00"):
            for text in neighbours(base):
                self.assertEqual(read_short(text), short_told(text), text)

    def test_days_of_the_year(self):
        for year, last in ((1, 365), (4, 366), (127, 365), (128, 365), (132, 366), (9999, 365)):
            for number in range(1000):
                date = read_short(f"{year}/{number:03}@12:00:00Z")
                if not 1 <= number <= last:
                    self.assertIsNone(date, (year, number))
                else:
                    moment = 86400 * (FIRST_DAYS[year - 1] + number - 1) + (year - 1) // 40 + 43200
                    self.assertEqual(moment_of(date), moment)

    def test_years_and_times(self):
        for year in ("0", "10000", "99999", "00", "-1", "9" * 5000):
            self.assertIsNone(read_short(year + "/093@06:07:08Z"))
        for time in ("24:00:00", "23:60:00", "23:59:61", "23:59:99", "06:07:60"):
            self.assertIsNone(read_short(f"123/093@{time}Z"), time)

    def test_leap_seconds(self):
        for text in ("40/366@23:59:60Z", "41/001@05:29:60+05:30", "40/366@23:58:60-00:01", "640/365@23:59:60Z"):
            self.assertTrue(is_date(read_short(text)), text)
        for text in ("40/365@23:59:60Z", "44/366@23:59:60Z", "39/365@23:59:60Z", "40/366@23:58:60Z",
                     "40/366@23:59:60+05:30", "41/001@00:00:60Z", "640/366@23:59:60Z", "1/001@00:59:60+01:00"):
            self.assertIsNone(read_short(text), text)

    def test_local_times_beside_all_moments(self):
        self.assertEqual(read_short("1/001@00:01:00+00:01"), (1, 1, 1, 0, 1, 0, 1))
        for text in ("1/001@00:00:59+00:01", "9999/365@23:59:00-00:01", "1/001@13:59:59+14:00"):
            self.assertIsNone(read_short(text), text)


if __name__ == "__main__":
    unittest.main()
