"""The errors of the package: each tells by its fields what was wrong."""


class FeedError(ValueError):
    """Every error of the package is one of these."""


class BadMoment(FeedError):
    """What was given is no moment, or none that may stand there."""

    def __init__(self, given):
        self.given = given


class BadZone(FeedError):
    """What was given is no zone."""

    def __init__(self, given):
        self.given = given


class BadDate(FeedError):
    """What was given is no date, or has none."""

    def __init__(self, given):
        self.given = given


class BadAddress(FeedError):
    """What was given is no address, or none that may stand there."""

    def __init__(self, given):
        self.given = given


class BadEntry(FeedError):
    """This field of an entry is not as it has to be."""

    def __init__(self, field):
        self.field = field


class BadPage(FeedError):
    """This field of a page is not as it has to be; the number is that of its wrong element, or None."""

    def __init__(self, field, number):
        self.field = field
        self.number = number


class BadText(FeedError):
    """The text cannot be read from this place on."""

    def __init__(self, line, column):
        self.line = line
        self.column = column


class BadNumber(FeedError):
    """This field is not one of the numbers that it can be."""

    def __init__(self, field):
        self.field = field


class NoEntry(FeedError):
    """No entry with this told is there."""

    def __init__(self, given):
        self.given = given


class Taken(FeedError):
    """This address is taken already."""

    def __init__(self, given):
        self.given = given


class TooMany(FeedError):
    """There cannot be more of these."""

    def __init__(self, what):
        self.what = what


class BadWorld(FeedError):
    """The row of this number is none of a world; None: the rows are no tuple."""

    def __init__(self, number):
        self.number = number


class BadTrouble(FeedError):
    """The trouble of this number is none; None: the troubles are no tuple."""

    def __init__(self, number):
        self.number = number


class BadThing(FeedError):
    """What was given is neither an entry nor a notice."""

    def __init__(self, given):
        self.given = given


class BadShelf(FeedError):
    """The object of this number is no shelf; None: the shelves do not fit."""

    def __init__(self, number):
        self.number = number


class NoSighting(FeedError):
    """The pair of this number is no sighting of an entry in the shelf."""

    def __init__(self, number):
        self.number = number


class BadDevice(FeedError):
    """What was given is no device."""

    def __init__(self, given):
        self.given = given


class BadLibrary(FeedError):
    """The object of this number is no library."""

    def __init__(self, number):
        self.number = number


class Torn(FeedError):
    """Two different notes have this stamp."""

    def __init__(self, stamp):
        self.stamp = stamp


class NoItem(FeedError):
    """What was given is no place of an item."""

    def __init__(self, given):
        self.given = given


class BadFolder(FeedError):
    """What was given is no folder."""

    def __init__(self, given):
        self.given = given


class NoNote(FeedError):
    """No note has this stamp."""

    def __init__(self, stamp):
        self.stamp = stamp


class BadQuery(FeedError):
    """The part of a query at this path is wrong."""

    def __init__(self, path):
        self.path = path


class BadWindow(FeedError):
    """The window of this number is none; None: the windows are no tuple."""

    def __init__(self, number):
        self.number = number


class BadOffer(FeedError):
    """The offer of this number is none; None: the offers are no tuple."""

    def __init__(self, number):
        self.number = number


class BadLog(FeedError):
    """The element of this number is none of a log; None: the log is no tuple."""

    def __init__(self, number):
        self.number = number


class NoAnswer(FeedError):
    """A replay has no answer to a question, after it has answered so many."""

    def __init__(self, number):
        self.number = number


class BadVector(FeedError):
    """What was given is no vector."""

    def __init__(self, given):
        self.given = given


class BadBundle(FeedError):
    """The part of this number is none of a bundle; None: it is no tuple of four."""

    def __init__(self, number):
        self.number = number


class Gap(FeedError):
    """A bundle builds on notes of this device that the library lacks."""

    def __init__(self, device):
        self.device = device
