"""Moments, zones and dates of the calendar, and the two texts of a date."""

from feedreader.errors import BadDate, BadMoment, BadZone
from feedreader.kinds import consists_of, is_within

LAST_MOMENT = 315537638648
LAST_YEAR = 9999
DAY_SECONDS = 86400
MONTH_DAYS = 28
YEAR_DAYS = 365
MONTHS = (
    "Ash", "Birch", "Cedar", "Elm", "Fir", "Hazel", "Larch", "Maple", "Oak", "Pine", "Rowan", "Willow", "Yew",
)
WEEKDAYS = ("Ar", "Be", "Co", "Da", "Ev", "Fo", "Gi", "Rest")
DIGITS = "0123456789"


def is_moment(value):
    """Whether it is a moment: a number of seconds from the beginning of year 1 on."""
    return is_within(value, 0, LAST_MOMENT)


def is_zone(value):
    """Whether it is a zone: minutes ahead of zone 0."""
    return is_within(value, -840, 840)


def is_date(value):
    """Whether it is a date: the local time of a moment in a zone."""
    if not isinstance(value, tuple) or len(value) != 7 or not _fits_calendar(value):
        return False
    before = _seconds_before(value)
    if not 0 <= before < DAY_SECONDS * _days_before(LAST_YEAR + 1):
        return False
    return value[5] < 60 or _is_before_leap_second(before)


def date_of(moment, zone=0):
    """The date of a moment in a zone."""
    if not is_moment(moment):
        raise BadMoment(moment)
    if not is_zone(zone):
        raise BadZone(zone)
    year = _year_at(moment)
    leap = 1 if year % 40 == 0 and moment == _begin_of(year + 1) - 1 else 0
    # A leap second is told as the second before it, with 60 in place of 59.
    day, second = divmod(moment - leap - _leap_seconds_before(year) + 60 * zone, DAY_SECONDS)
    local_year = _year_of_day(day)
    if not 1 <= local_year <= LAST_YEAR:
        raise BadDate((moment, zone))
    month, month_day = _month_and_day(day - _days_before(local_year))
    return (local_year, month, month_day, second // 3600, second // 60 % 60, second % 60 + leap, zone)


def moment_of(date):
    """The moment of a date."""
    if not is_date(date):
        raise BadDate(date)
    before = _seconds_before(date)
    leap = 1 if date[5] == 60 else 0
    return before + _leap_seconds_before(_year_of_day(before // DAY_SECONDS)) + leap


def long_text(date):
    """The text of a date in words."""
    if not is_date(date):
        raise BadDate(date)
    year, month, day = date[:3]
    return f"{_weekday(day)} {day} {MONTHS[month - 1]} {year} {_time_text(date)} {_zone_text(date[6])}"


def short_text(date):
    """The text of a date with the day of the year."""
    if not is_date(date):
        raise BadDate(date)
    year, month, day = date[:3]
    return f"{year}/{MONTH_DAYS * (month - 1) + day:03d}@{_time_text(date)}{_zone_text(date[6])}"


def read_long(text):
    """The date that a long text tells and whether its weekday lies; (None, False) without a date."""
    if not isinstance(text, str):
        return (None, False)
    words = [word for word in text.lower().split(" ") if word]
    weekdays = [name.lower() for name in WEEKDAYS]
    told = words[0] if words and words[0] in weekdays else None
    date = _date_of_words(words if told is None else words[1:])
    if not is_date(date):
        return (None, False)
    return (date, told is not None and told != _weekday(date[2]).lower())


def read_short(text):
    """The date that a short text tells, None if it tells none."""
    if not isinstance(text, str):
        return None
    year, _, rest = text.partition("/")
    number, _, rest = rest.partition("@")
    day = _number_of_digits(number, 3)
    if day is None:
        return None
    date = (_plain_number(year, 4),) + _month_and_day(day - 1) + _time_of(rest[:8]) + (_zone_of(rest[8:]),)
    return date if is_date(date) and short_text(date) == text else None


def _days_before(year):
    """How many days are before a year, from year 1 on."""
    past = year - 1
    return YEAR_DAYS * past + past // 4 - past // 128


def _year_of_day(day):
    """The year of a day that is counted from the first one of year 1, at 0."""
    # The lengths of years repeat after 128 years, and within these each four years
    # are alike, but for the last four: they lack their last day.
    rounds, day = divmod(day, 128 * YEAR_DAYS + 31)
    fours, day = divmod(day, 4 * YEAR_DAYS + 1)
    return 128 * rounds + 4 * fours + min(day // YEAR_DAYS, 3) + 1


def _month_and_day(number):
    """Month and day of the month of a day of the year, counted from 0."""
    month = min(number // MONTH_DAYS, len(MONTHS) - 1)
    return (month + 1, number - MONTH_DAYS * month + 1)


def _days_in_month(year, month):
    """How many days a month of a year has."""
    if month < len(MONTHS):
        return MONTH_DAYS
    return 30 if year % 4 == 0 and year % 128 != 0 else 29


def _leap_seconds_before(year):
    """How many leap seconds are before a year."""
    return (year - 1) // 40


def _begin_of(year):
    """The moment at which a year begins, at zone 0."""
    return DAY_SECONDS * _days_before(year) + _leap_seconds_before(year)


def _year_at(moment):
    """The year of a moment, at zone 0."""
    # Moments count leap seconds, too, so the year that is told by days alone may be one too late.
    year = _year_of_day(moment // DAY_SECONDS)
    return year if _begin_of(year) <= moment else year - 1


def _fits_calendar(date):
    """Whether seven objects are those of a day of the calendar, a time of a day and a zone."""
    year, month, day, hour, minute, second, zone = date
    if not is_within(year, 1, LAST_YEAR) or not is_within(month, 1, len(MONTHS)):
        return False
    if not is_within(day, 1, _days_in_month(year, month)) or not is_zone(zone):
        return False
    return is_within(hour, 0, 23) and is_within(minute, 0, 59) and is_within(second, 0, 60)


def _seconds_before(date):
    """How many seconds are before a date, leap seconds not counted; 60 counts as the second before it."""
    year, month, day, hour, minute, second, zone = date
    days = _days_before(year) + MONTH_DAYS * (month - 1) + day - 1
    return DAY_SECONDS * days + 3600 * hour + 60 * (minute - zone) + min(second, 59)


def _is_before_leap_second(before):
    """Whether a leap second follows the second before which there are so many, leap seconds not counted."""
    year = _year_of_day(before // DAY_SECONDS)
    return year % 40 == 0 and before + 1 == DAY_SECONDS * _days_before(year + 1)


def _weekday(day):
    """The weekday of a day of a month."""
    return WEEKDAYS[(day - 1) % 7] if day <= MONTH_DAYS else WEEKDAYS[7]


def _time_text(date):
    """The time of a date as it is written."""
    hour, minute, second = date[3:6]
    return f"{hour:02d}:{minute:02d}:{second:02d}"


def _zone_text(zone):
    """A zone as it is written."""
    if zone == 0:
        return "Z"
    hours, minutes = divmod(abs(zone), 60)
    sign = "-" if zone < 0 else "+"
    return f"{sign}{hours:02d}:{minutes:02d}"


def _date_of_words(words):
    """The date that small words from the day on tell; if there is none, something else that is no date."""
    if len(words) < 4 or len(words) > 5:
        return None
    day, month, year, time = words[:4]
    zone = words[4] if len(words) == 5 else "z"
    if time.count(":") == 1:
        time = time + ":00"
    return (_plain_number(year, 4), _month_of(month), _plain_number(day, 2)) + _time_of(time) + (_zone_of(zone),)


def _plain_number(word, most):
    """The number above 0 with so many digits at most and no leading zeros, None if the word is none."""
    if not 1 <= len(word) <= most or word.startswith("0"):
        return None
    return _number_of_digits(word, len(word))


def _number_of_digits(word, count):
    """The number with just so many digits, None if the word is none."""
    if len(word) != count or not consists_of(word, DIGITS):
        return None
    return int(word)


def _month_of(word):
    """The number of the month whose name begins with the word, in small letters, None if there is none."""
    for number, name in enumerate(MONTHS, start=1):
        if len(word) >= 3 and name.lower().startswith(word):
            return number
    return None


def _time_of(word):
    """The numbers between the colons of a time, None for what has not two digits."""
    return tuple([_number_of_digits(part, 2) for part in word.split(":")])


def _zone_of(word):
    """The zone that is written so, also with a small Z, None if there is none."""
    if word in ("Z", "z"):
        return 0
    hours = _number_of_digits(word[1:3], 2)
    minutes = _number_of_digits(word[4:], 2)
    if hours is None or minutes is None:
        return None
    zone = 60 * hours + minutes
    if word.startswith("-"):
        zone = -zone
    return zone if _zone_text(zone) == word else None
