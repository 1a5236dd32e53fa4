"""Bundles, in which libraries hand on what another one lacks: their form."""

from feedreader.addresses import is_address
from feedreader.dates import is_moment
from feedreader.errors import BadBundle
from feedreader.notes import is_device, is_note, is_number
from feedreader.shelves import is_thing


def is_vector(value):
    """Whether it is a dict from devices to numbers of notes."""
    if not isinstance(value, dict):
        return False
    return all([is_device(device) and is_number(number) for device, number in value.items()])


def check_bundle(value):
    """Refuses what has not the form of a bundle."""
    if not isinstance(value, tuple) or len(value) != 4:
        raise BadBundle(None)
    vector, sightings, moves, notes = value
    for number, fits in enumerate((
        is_vector(vector),
        isinstance(sightings, tuple) and all([_is_sighting(part) for part in sightings]),
        isinstance(moves, tuple) and all([_is_move(part) for part in moves]),
        isinstance(notes, tuple) and all([is_note(part) for part in notes]),
    )):
        if not fits:
            raise BadBundle(number)


def lacking_devices(own, vector):
    """The ascending list of the devices of which a vector has later notes than the own one."""
    return sorted([device for device, number in vector.items() if own.get(device, 0) < number])


def is_covered(vector, stamp):
    """Whether a vector covers the note with this stamp."""
    number, device = stamp
    return number <= vector.get(device, 0)


def _is_sighting(value):
    """Whether it is a sighting with its moment."""
    if not isinstance(value, tuple) or len(value) != 3:
        return False
    feed, thing, moment = value
    return is_address(feed) and is_thing(thing) and is_moment(moment)


def _is_move(value):
    """Whether it is a pair of two different addresses."""
    if not isinstance(value, tuple) or len(value) != 2:
        return False
    old, new = value
    return is_address(old) and is_address(new) and old != new
