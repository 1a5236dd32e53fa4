"""The calendar told once more, day by day and second by second, to compare the program with."""

import bisect

MONTHS = "Ash Birch Cedar Elm Fir Hazel Larch Maple Oak Pine Rowan Willow Yew".split()
WEEKDAYS = "Ar Be Co Da Ev Fo Gi".split()


def year_length(year):
    """How many days a year has."""
    return 12 * 28 + (30 if year % 4 == 0 and year % 128 != 0 else 29)


def first_days():
    """The day on which each year begins, counted on; the last one is that of year 10000."""
    days = [0]
    for year in range(1, 10000):
        days.append(days[-1] + year_length(year))
    return days


FIRST_DAYS = first_days()
# Leap seconds as moments, in order: each one stands behind a year and the leap seconds before it.
LEAPS = [86400 * FIRST_DAYS[40 * k] + k - 1 for k in range(1, 250)]
LAST = 86400 * FIRST_DAYS[-1] + len(LEAPS) - 1


def local_time(moment, zone):
    """The date of a moment in a zone, None for a year that is 0 or 10000."""
    before = bisect.bisect_left(LEAPS, moment)
    if before < len(LEAPS) and LEAPS[before] == moment:
        date = local_time(moment - 1, zone)
        return date and date[:5] + (60, zone)
    local = moment - before + 60 * zone
    if not 0 <= local < 86400 * FIRST_DAYS[-1]:
        return None
    day, second = divmod(local, 86400)
    year = bisect.bisect_right(FIRST_DAYS, day)
    day -= FIRST_DAYS[year - 1]
    month = 1
    while month < 13 and day >= 28:
        month, day = month + 1, day - 28
    return (year, month, day + 1, second // 3600, second % 3600 // 60, second % 60, zone)
