"""Plans of asks that see every version at the least cost, and pledges, which show that none costs less."""

from feedreader.errors import BadOffer, BadWindow
from feedreader.kinds import is_int, is_within

MOST_COST = 1000000


def lost(windows, offers):
    """The ascending tuple of the numbers of the windows without an offer."""
    _check(windows, offers)
    return tuple([number for number, (first, behind) in enumerate(_spans(windows, offers)) if first == behind])


def cheapest(windows, offers):
    """A plan and pledges of the same cost: so no plan costs less."""
    _check(windows, offers)
    pledges, ends = _pledge(_spans(windows, offers), offers)
    # The last windows choose first, so that no window that pledges something has two offers of the plan.
    chosen = []
    for behind, used_up in reversed(ends):
        if not chosen or chosen[-1] >= behind:
            chosen.append(used_up)
    return (tuple([offers[number][0] for number in chosen[::-1]]), tuple(pledges))


def shows_cheapest(windows, offers, plan, pledges):
    """Whether these are a plan and pledges of the same cost."""
    _check(windows, offers)
    spans = _spans(windows, offers)
    if not _is_plan(windows, spans, offers, plan) or not _are_pledges(spans, offers, pledges):
        return False
    asked = set(plan)
    return sum([cost for moment, cost in offers if moment in asked]) == sum(pledges)


def _check(windows, offers):
    """Refuses what are no windows or no offers."""
    if not isinstance(windows, tuple):
        raise BadWindow(None)
    for number, window in enumerate(windows):
        if not _is_window(window):
            raise BadWindow(number)
    if not isinstance(offers, tuple):
        raise BadOffer(None)
    last = -1
    for number, offer in enumerate(offers):
        if not _is_offer(offer) or offer[0] <= last:
            raise BadOffer(number)
        last = offer[0]


def _is_window(value):
    """Whether it is a pair of moments, the first one not after the second one."""
    if not isinstance(value, tuple) or len(value) != 2:
        return False
    begin, end = value
    return is_int(begin) and is_int(end) and 0 <= begin <= end


def _is_offer(value):
    """Whether it is a pair of a moment and a cost."""
    if not isinstance(value, tuple) or len(value) != 2:
        return False
    moment, cost = value
    return is_int(moment) and moment >= 0 and is_within(cost, 1, MOST_COST)


def _spans(windows, offers):
    """For each window the number of its first offer and that of the one behind its last; the same if it has none."""
    moments = [moment for moment, _ in offers]
    return [(_first_from(moments, begin), _first_from(moments, end)) for begin, end in windows]


def _first_from(moments, begin):
    """The number of the first one of rising moments that is not before another one, their count if there is none."""
    low = 0
    high = len(moments)
    while low < high:
        middle = (low + high) // 2
        if moments[middle] < begin:
            low = middle + 1
        else:
            high = middle
    return low


def _pledge(spans, offers):
    """The list of the greatest pledges, and for each window with one, in order, its end and the offer it used up.

    The windows pledge in the order of their ends, each as much as its offers still allow. So a later window has
    either an offer that is used up, and pledges nothing, or only offers behind these: and all windows that pledged
    since such an offer came had it, too.
    """
    pledges = [0] * len(spans)
    ends = []
    # Of the offers behind those that are used up: (number, what all pledges come to when it is used up), both rising.
    # An offer does not matter if one behind it is used up no later.
    kept = []
    begin = 0
    total = 0
    for behind, first, number in sorted([(span[1], span[0], at) for at, span in enumerate(spans) if span[0] < span[1]]):
        for coming in range(begin, behind):
            limit = offers[coming][1] + total
            while kept and kept[-1][1] >= limit:
                kept.pop()
            kept.append((coming, limit))
        begin = behind
        if ends and first <= ends[-1][1]:
            continue
        at = 0
        while kept[at][0] < first:
            at += 1
        used_up, limit = kept[at]
        del kept[:at + 1]
        pledges[number] = limit - total
        total = limit
        ends.append((behind, used_up))
    return (pledges, ends)


def _is_plan(windows, spans, offers, value):
    """Whether it is a tuple of moments of offers of which each window that is not lost has one."""
    if not isinstance(value, tuple) or not all([is_int(moment) for moment in value]):
        return False
    moments = {moment for moment, _ in offers}
    if not all([moment in moments for moment in value]) or any([a >= b for a, b in zip(value, value[1:])]):
        return False
    for (begin, end), (first, behind) in zip(windows, spans):
        at = _first_from(value, begin)
        if first < behind and (at == len(value) or value[at] >= end):
            return False
    return True


def _are_pledges(spans, offers, value):
    """Whether it is a tuple of pledges of the windows that are together nowhere more than the cost of an offer."""
    if not isinstance(value, tuple) or len(value) != len(spans):
        return False
    if not all([is_int(pledge) and pledge >= 0 for pledge in value]):
        return False
    # By how much the pledges for an offer are more than those for the offer before it.
    steps = [0] * (len(offers) + 1)
    for (first, behind), pledge in zip(spans, value):
        if first == behind and pledge != 0:
            return False
        steps[first] += pledge
        steps[behind] -= pledge
    load = 0
    for step, (_, cost) in zip(steps, offers):
        load += step
        if load > cost:
            return False
    return True
