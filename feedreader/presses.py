"""Presses, which publish entries at an address, with archives, notices and moves."""

from feedreader.addresses import is_address
from feedreader.dates import LAST_MOMENT, date_of, is_moment
from feedreader.errors import BadAddress, BadEntry, BadMoment, BadNumber, BadPage, NoEntry, Taken, TooMany
from feedreader.kinds import is_within
from feedreader.pages import Entry, Page, is_headline, is_told

MOST_PUTS = 60
MOST_MOVES = 9


def is_press_address(value):
    """Whether a press can have it as its address."""
    return is_address(value) and len(value) <= 100 and not value.endswith("/") and "old" not in value.split("/")[3:]


def page_address(base, number):
    """The address of a page of a press at this address: of the archive of this number, of the newest page for 0."""
    return base + "/old/" + str(number) if number else base


class Stand:
    """How a press stands behind one of its deeds; entries are told by the numbers of their puts."""

    def __init__(self, moment, recent, archives, versions, withdrawn, left):
        self.moment = moment
        self.recent = recent
        self.archives = archives
        # The newest versions of all that is there, the latest put first.
        self.versions = versions
        # The notices of all that is withdrawn, the last one first.
        self.withdrawn = withdrawn
        # How many archives there were when the press left each of its earlier addresses.
        self.left = left


class Press:
    """Publishes entries at an address from a moment on, and tells its pages at any moment."""

    def __init__(self, address, moment, *, size=4, headline=""):
        if not is_press_address(address):
            raise BadAddress(address)
        if not is_moment(moment):
            raise BadMoment(moment)
        if not is_within(size, 1, 9):
            raise BadNumber("size")
        if not is_headline(headline):
            raise BadPage("headline", None)
        self._size = size
        self._headline = headline
        self._addresses = [address]
        self._stands = [Stand(moment, (), (), (), (), ())]
        self._puts = []
        # By the numbers of puts: when the versions left the row of recent ones.
        self._ends = {}
        # By told: the moment of the last deed for it. By link: the told that had it first.
        self._deeds = {}
        self._owners = {}

    @property
    def address(self):
        """The address at which the press is behind all its deeds."""
        return self._addresses[-1]

    @property
    def addresses(self):
        """The tuple of all addresses that the press has had, in order."""
        return tuple(self._addresses)

    @property
    def headline(self):
        """The headline of all pages."""
        return self._headline

    @property
    def moments(self):
        """The ascending tuple of the moments of all deeds."""
        return tuple(sorted(set([stand.moment for stand in self._stands])))

    def put(self, moment, told, *, link=None, headline="", text="", zone=0):
        """Publishes an entry, or a new version of it."""
        self._check_moment(moment, told)
        changed = date_of(moment, zone)
        if not is_told(told):
            raise BadEntry("told")
        if isinstance(link, str) and self._owners.get(link, told) != told:
            raise BadEntry("link")
        stand = self._stands[-1]
        others = self._without(stand.versions, told)
        olds = [number for number in stand.versions if number not in others]
        published = self._puts[olds[0]][1].published if olds else changed
        entry = Entry(told=told, link=link, headline=headline, text=text, published=published, changed=changed)
        number = len(self._puts)
        if number == MOST_PUTS:
            raise TooMany("puts")
        self._puts.append((moment, entry))
        self._deeds[told] = moment
        if link is not None:
            self._owners[link] = told
        recent = (number,) + self._without(stand.recent, told)
        archives = stand.archives
        if len(recent) > 2 * self._size:
            archives = archives + (recent[self._size:],)
            recent = recent[:self._size]
        withdrawn = _without_notice(stand.withdrawn, told)
        self._stand(Stand(moment, recent, archives, (number,) + others, withdrawn, stand.left))

    def withdraw(self, moment, told):
        """Takes an entry back."""
        self._check_moment(moment, told)
        stand = self._stands[-1]
        versions = self._without(stand.versions, told)
        if versions == stand.versions:
            raise NoEntry(told)
        self._deeds[told] = moment
        withdrawn = (("told", told, date_of(moment)),) + stand.withdrawn
        self._stand(Stand(moment, self._without(stand.recent, told), stand.archives, versions, withdrawn, stand.left))

    def move(self, moment, address):
        """Goes on at another address."""
        self._check_moment(moment, None)
        if not is_press_address(address):
            raise BadAddress(address)
        if address in self._addresses:
            raise Taken(address)
        if len(self._addresses) > MOST_MOVES:
            raise TooMany("moves")
        stand = self._stands[-1]
        self._addresses.append(address)
        left = stand.left + (len(stand.archives),)
        self._stand(Stand(moment, stand.recent, stand.archives, stand.versions, stand.withdrawn, left))

    def page_at(self, address, moment):
        """The page at an address and a moment, ("moved", address), or None where nothing stood till then."""
        stand = self._stand_at(moment)
        if stand is None or not isinstance(address, str):
            return None
        for at, count in enumerate(stand.left + (len(stand.archives),)):
            number = _page_number(self._addresses[at], address, count)
            if number is not None and at < len(stand.left):
                return ("moved", page_address(self._addresses[at + 1], number))
            if number is not None:
                return self._page(stand, number)
        return None

    def page_addresses(self):
        """The list of all addresses that the press and its pages have had."""
        stand = self._stands[-1]
        addresses = []
        for base, count in zip(self._addresses, stand.left + (len(stand.archives),)):
            addresses.extend([page_address(base, number) for number in range(count + 1)])
        return addresses

    def entries_at(self, moment):
        """The tuple of the newest versions of all that is there at a moment, the latest put first."""
        stand = self._stand_at(moment)
        return () if stand is None else self._entries_of(stand.versions)

    def windows(self, goal):
        """For each put till a moment, from when until when its version is among the recent ones."""
        if not is_moment(goal) or goal == LAST_MOMENT:
            raise BadMoment(goal)
        begins = [moment for moment, _ in self._puts if moment <= goal]
        return tuple([(begin, min(self._ends.get(number, goal + 1), goal + 1)) for number, begin in enumerate(begins)])

    def _check_moment(self, moment, told):
        """Refuses a moment for a deed that is none, goes back or is not later than the last deed for the told."""
        if not is_moment(moment) or moment < self._stands[-1].moment:
            raise BadMoment(moment)
        if isinstance(told, str) and told in self._deeds and moment <= self._deeds[told]:
            raise BadMoment(moment)

    def _without(self, numbers, told):
        """These numbers of puts without those of the told."""
        return tuple([number for number in numbers if self._puts[number][1].told != told])

    def _stand(self, stand):
        """Stands so from now on."""
        for number in self._stands[-1].recent:
            if number not in stand.recent:
                self._ends[number] = stand.moment
        self._stands.append(stand)

    def _stand_at(self, moment):
        """How the press stands at a moment, all its deeds done, None ahead of the first one."""
        if not is_moment(moment):
            raise BadMoment(moment)
        stands = [stand for stand in self._stands if stand.moment <= moment]
        return stands[-1] if stands else None

    def _entries_of(self, numbers):
        """The entries of these puts."""
        return tuple([self._puts[number][1] for number in numbers])

    def _page(self, stand, number):
        """The page of this number as the press stands."""
        base = self._addresses[len(stand.left)]
        last = number - 1 if number else len(stand.archives)
        numbers = stand.archives[number - 1] if number else stand.recent
        return Page(
            headline=self._headline, here=page_address(base, number), older=page_address(base, last) if last else None,
            is_archive=number > 0, entries=self._entries_of(numbers), notices=() if number else stand.withdrawn,
        )


def _without_notice(notices, told):
    """These notices without that of the told."""
    return tuple([notice for notice in notices if notice[1] != told])


def _page_number(base, address, count):
    """The number of the page that has the address at a press with so many archives, None if none has."""
    if address == base:
        return 0
    if address.startswith(base + "/old/"):
        for number in range(1, count + 1):
            if address == page_address(base, number):
                return number
    return None
