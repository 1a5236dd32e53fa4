"""Worlds, which tell how each address behaves at each moment."""

from feedreader.addresses import is_address
from feedreader.dates import is_moment
from feedreader.errors import BadAddress, BadMoment, BadTrouble, BadWorld, Taken
from feedreader.kinds import is_int, is_within
from feedreader.nest import write_nest
from feedreader.rows import write_rows

MOST_SECONDS = 1000000


def is_fresh(value):
    """Whether it is a number of seconds for which a page may be used without asking again."""
    return is_within(value, 0, MOST_SECONDS)


def is_trouble(value):
    """Whether it is a behavior of an address that cannot answer now."""
    if value == ("down",):
        return True
    return isinstance(value, tuple) and len(value) == 2 and value[0] == "busy" and is_within(value[1], 1, MOST_SECONDS)


def is_stop(address, value):
    """Whether it is a behavior of this address that tells no page."""
    if is_trouble(value) or value == ("gone",):
        return True
    if not isinstance(value, tuple) or len(value) != 3 or value[0] != "moved":
        return False
    return is_address(value[1]) and value[1] != address and isinstance(value[2], bool)


def is_behavior(address, value):
    """Whether it is a behavior of this address."""
    if is_stop(address, value):
        return True
    if not isinstance(value, tuple) or len(value) != 3 or value[0] != "page":
        return False
    return isinstance(value[1], str) and is_fresh(value[2])


class World:
    """Answers questions for addresses at moments by a told plan."""

    def __init__(self, rows):
        if not isinstance(rows, tuple):
            raise BadWorld(None)
        # By address: the tuples (moment, behavior, mark), the mark of a page or None.
        self._plan = {}
        # By address: the marks of its texts.
        marks = {}
        for number, row in enumerate(rows):
            if not _is_row(row):
                raise BadWorld(number)
            address, moment, behavior = row
            plan = self._plan.setdefault(address, [])
            if plan and moment <= plan[-1][0]:
                raise BadWorld(number)
            mark = None
            if behavior[0] == "page":
                known = marks.setdefault(address, {})
                mark = known.setdefault(behavior[1], len(known))
            plan.append((moment, behavior, mark))

    def plain(self, address, moment):
        """How an address behaves at a moment."""
        return self._row_at(address, moment)[1]

    def ask(self, address, moment, mark=None):
        """What an address answers at a moment to a question that tells this mark."""
        _, behavior, own_mark = self._row_at(address, moment)
        if behavior[0] != "page":
            return behavior
        _, text, fresh = behavior
        if is_int(mark) and mark == own_mark:
            return ("same", fresh)
        return ("page", text, own_mark, fresh)

    def _row_at(self, address, moment):
        """The tuple (moment, behavior, mark) that is in force for an address at a moment."""
        if not is_address(address):
            raise BadAddress(address)
        if not is_moment(moment):
            raise BadMoment(moment)
        plan = self._plan.get(address, [])
        # The row is the one ahead of the first one that begins later.
        low = 0
        high = len(plan)
        while low < high:
            middle = (low + high) // 2
            if plan[middle][0] <= moment:
                low = middle + 1
            else:
                high = middle
        return plan[low - 1] if low else (None, ("gone",), None)


def rows_of(pages, moment, *, style="rows", fresh=0):
    """The rows of a world for pairs (address, page), in their order, from a moment on."""
    return tuple([(address, moment, _page_behavior(page, address, style, fresh)) for address, page in pages])


def world_of(presses, *, style="rows", fresh=0, troubles=()):
    """The world in which the presses have all their pages at all moments, with troubles over some addresses."""
    _check_addresses(presses)
    plan = {}
    for press in presses:
        for address in press.page_addresses():
            plan[address] = _behaviors(press, address, style, fresh)
    by_address = _check_troubles(troubles, plan)
    for address, laid in by_address.items():
        plan[address] = _with_troubles(plan.get(address, []), laid)
    return World(tuple([(address, moment, behavior) for address in plan for moment, behavior in plan[address]]))


def _is_row(row):
    """Whether it is a row of a world."""
    if not isinstance(row, tuple) or len(row) != 3:
        return False
    address, moment, behavior = row
    return is_address(address) and is_moment(moment) and is_behavior(address, behavior)


def _page_behavior(page, address, style, fresh):
    """The behavior of an address at which a page stands."""
    text = write_nest(page, address) if style == "nest" else write_rows(page, address)
    return ("page", text, fresh)


def _check_addresses(presses):
    """Refuses presses of which one has an address of an earlier one."""
    taken = {}
    for number, press in enumerate(presses):
        for address in press.addresses:
            if taken.setdefault(address, number) != number:
                raise Taken(address)


def _behaviors(press, address, style, fresh):
    """The pairs (moment, behavior) of an address of a press, where it begins to behave in another way."""
    rows = []
    last = None
    for moment in press.moments:
        found = press.page_at(address, moment)
        if found is None or found == last:
            continue
        last = found
        if isinstance(found, tuple):
            rows.append((moment, ("moved", found[1], True)))
        else:
            rows.append((moment, _page_behavior(found, address, style, fresh)))
    return rows


def _check_troubles(troubles, plan):
    """The triples (begin, end, behavior) of troubles by their addresses; refuses what are none."""
    if not isinstance(troubles, tuple):
        raise BadTrouble(None)
    by_address = {}
    for number, trouble in enumerate(troubles):
        if not _is_laid(trouble):
            raise BadTrouble(number)
        address, begin, end, behavior = trouble
        earlier = by_address.setdefault(address, [])
        if any([begin < other_end and other_begin < end for other_begin, other_end, _ in earlier]):
            raise BadTrouble(number)
        if any([moment < end and told[0] == "moved" for moment, told in plan.get(address, [])]):
            raise BadTrouble(number)
        earlier.append((begin, end, behavior))
    return by_address


def _is_laid(value):
    """Whether it is a trouble that is laid over an address from a moment to a later one."""
    if not isinstance(value, tuple) or len(value) != 4:
        return False
    address, begin, end, behavior = value
    return is_address(address) and is_moment(begin) and is_moment(end) and begin < end and is_trouble(behavior)


def _with_troubles(rows, troubles):
    """The pairs (moment, behavior) of an address, ascending, when troubles lie over it."""
    laid = []
    for begin, end, behavior in troubles:
        laid.append((begin, behavior))
        # No two troubles have a moment in common, so behind one there may be only the beginning of another one.
        if not any([other == end for other, _, _ in troubles]):
            laid.append((end, _behavior_at(rows, end)))
    for moment, behavior in rows:
        if not any([begin <= moment <= end for begin, end, _ in troubles]):
            laid.append((moment, behavior))
    return sorted(laid, key=lambda row: row[0])


def _behavior_at(rows, moment):
    """The behavior that is in force at a moment by pairs (moment, behavior), ascending."""
    behavior = ("gone",)
    for begin, told in rows:
        if begin <= moment:
            behavior = told
    return behavior
