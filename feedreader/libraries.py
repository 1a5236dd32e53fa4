"""Libraries of several devices, which keep what was read, starred and filed, and exchange it."""

from feedreader.addresses import is_address
from feedreader.bundles import check_bundle, is_covered, is_vector, lacking_devices
from feedreader.errors import BadAddress, BadDevice, BadFolder, BadLibrary, BadVector, Gap, NoNote, Torn
from feedreader.notes import (
    bearing_notes, chain_from, disagree, is_device, is_folder, is_stamp, reading_by, winning_value,
)
from feedreader.shelves import Shelf

READINGS = ("unread", "newer")


class Library:
    """What a device has seen, and the notes of it and of others on what was read, starred and filed."""

    def __init__(self, device):
        if not is_device(device):
            raise BadDevice(device)
        self._device = device
        self._shelf = Shelf()
        # By stamp.
        self._notes = {}
        # As bearing_notes tells it; None if it has to be worked out anew.
        self._borne = None

    @property
    def shelf(self):
        """A copy of its shelf."""
        return self._shelf.merged()

    @property
    def notes(self):
        """The ascending tuple of its notes, (stamp, kind, subject, value, over) each."""
        return tuple([self._notes[stamp] for stamp in sorted(self._notes)])

    def take_walk(self, walk):
        """Keeps all that was seen on a walk, and its moves."""
        self._shelf.take_walk(walk)
        self._borne = None

    def see(self, feed, thing, moment):
        """Keeps that an entry or a notice was seen at an address at a moment."""
        self._shelf.see(feed, thing, moment)
        self._borne = None

    def learn(self, old, new):
        """Keeps that an address moved to another one."""
        self._shelf.learn(old, new)
        self._borne = None

    def mark_read(self, place):
        """Notes that an item was read in its newest version."""
        item = self._shelf.item_of(place)
        return self._note("read", item.places[0], item.places, item.version)

    def mark_unread(self, place):
        """Notes that an item is unread."""
        item = self._shelf.item_of(place)
        return self._note("read", item.places[0], item.places, None)

    def star(self, place):
        """Notes that an item is starred."""
        item = self._shelf.item_of(place)
        return self._note("star", item.places[0], item.places, True)

    def unstar(self, place):
        """Notes that an item is not starred."""
        item = self._shelf.item_of(place)
        return self._note("star", item.places[0], item.places, False)

    def file_feed(self, address, folder):
        """Notes that a feed is in a folder, None for none."""
        if not is_address(address):
            raise BadAddress(address)
        if not is_folder(folder):
            raise BadFolder(folder)
        feed = self._shelf.feed_of(address)
        return self._note("folder", feed[0], feed, folder)

    def take(self, *others):
        """Takes over what other libraries have."""
        for number, other in enumerate(others):
            if not isinstance(other, Library):
                raise BadLibrary(number)
        self._take([other._shelf for other in others], [note for other in others for note in other.notes])

    def conflicts(self):
        """The ascending tuple of the conflicts, each as (kind, stamps)."""
        found = [
            (kind, tuple([note[0] for note in bearing]))
            for (kind, _), bearing in self._bearing().items() if disagree(kind, bearing)
        ]
        return tuple(sorted(set(found)))

    def reading_of(self, place):
        """The reading of an item."""
        return self._reading(self._shelf.item_of(place))

    def is_starred(self, place):
        """Whether an item is starred."""
        return self._winning("star", self._shelf.item_of(place).places[0], False)

    def folder_of(self, address):
        """The folder of a feed, None if it is in none."""
        return self._winning("folder", self._shelf.feed_of(address)[0], None)

    def chain(self, stamp):
        """The row of stamps that leads from a note to one that counts now."""
        if not is_stamp(stamp) or stamp not in self._notes:
            raise NoNote(stamp)
        return chain_from(self._notes, stamp)

    def trial(self, function):
        """What a function returns that is called with the library, which is as before then."""
        shelf = self._shelf
        notes = self._notes
        self._shelf = shelf.merged()
        self._notes = {stamp: notes[stamp] for stamp in notes}
        try:
            return function(self)
        finally:
            self._shelf, self._notes, self._borne = shelf, notes, None

    def vector(self):
        """The dict of the greatest numbers of notes by device."""
        return {device: number for number, device in sorted(self._notes)}

    def bundle(self, vector):
        """What a library with this vector lacks of the notes, together with all that was seen."""
        if not is_vector(vector):
            raise BadVector(vector)
        notes = tuple([note for note in self.notes if not is_covered(vector, note[0])])
        return (dict(vector), self._shelf.sightings, self._shelf.moves, notes)

    def take_bundle(self, bundle):
        """Takes over what a bundle has, unless there are notes between it and the own ones."""
        check_bundle(bundle)
        vector, sightings, moves, notes = bundle
        lacking = lacking_devices(self.vector(), vector)
        if lacking:
            raise Gap(lacking[0])
        shelf = Shelf()
        for feed, thing, moment in sightings:
            shelf.see(feed, thing, moment)
        for old, new in moves:
            shelf.learn(old, new)
        self._take([shelf], notes)

    def rows(self):
        """The tuple of what it tells of the items that are not gone."""
        return tuple([self._row(item) for item in self._shelf.all_items()])

    def counts(self):
        """The dict from the folders of the rows to how many rows there are in all, unread and newer."""
        found = {}
        for _, _, reading, _, folder, _ in self.rows():
            known = found.get(folder, (0, 0, 0))
            ones = [1] + [1 if reading == word else 0 for word in READINGS]
            found[folder] = tuple([many + one for many, one in zip(known, ones)])
        return found

    def _bearing(self):
        """The notes by what they bear on."""
        if self._borne is None:
            self._borne = bearing_notes(self._shelf, self._notes)
        return self._borne

    def _note(self, kind, first, subject, value):
        """Writes a note on the item or feed with this first place or address, and returns its stamp."""
        over = tuple([note[0] for note in self._bearing().get((kind, first), [])])
        stamp = (1 + max([number for number, _ in self._notes], default=0), self._device)
        self._notes[stamp] = (stamp, kind, subject, value, over)
        self._borne = None
        return stamp

    def _take(self, shelves, notes):
        """Takes over what shelves keep, and notes."""
        whole = {stamp: self._notes[stamp] for stamp in self._notes}
        torn = [note[0] for note in notes if whole.setdefault(note[0], note) != note]
        if torn:
            raise Torn(min(torn))
        self._shelf = self._shelf.merged(*shelves)
        self._notes = whole
        self._borne = None

    def _winning(self, kind, first, default):
        """The value of the winner of a kind for the item or feed with this first place or address."""
        return winning_value(self._bearing().get((kind, first), []), default)

    def _reading(self, item):
        """The reading of an item."""
        return reading_by(self._notes, self._bearing().get(("read", item.places[0]), []), item.version)

    def _row(self, item):
        """The row of an item."""
        is_starred = self._winning("star", item.places[0], False)
        folder = self._winning("folder", item.feed[0], None)
        return (item.version, item.time, self._reading(item), is_starred, folder, item.feed)
