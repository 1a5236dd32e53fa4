"""Things that are joined in pairs: the classes that chains of pairs make, and the ways along such chains."""


def links_of(pairs):
    """A dict from each thing in the pairs to the list of those that it is joined with."""
    links = {}
    for one, other in pairs:
        links.setdefault(one, []).append(other)
        links.setdefault(other, []).append(one)
    return links


def classes_of(links):
    """A dict from each thing that is joined so to the least thing of its class."""
    least = {}
    for first in sorted(links):
        if first in least:
            continue
        least[first] = first
        waiting = [first]
        while waiting:
            thing = waiting.pop()
            for other in links[thing]:
                if other not in least:
                    least[other] = first
                    waiting.append(other)
    return least


def way_between(links, start, goal):
    """A shortest way from a thing to another one, a list that has both; None if there is none."""
    before = {start: None}
    layer = [start]
    while layer and goal not in before:
        following = []
        for thing in layer:
            for other in links.get(thing, []):
                if other not in before:
                    before[other] = thing
                    following.append(other)
        layer = following
    if goal not in before:
        return None
    steps = [goal]
    while before[steps[-1]] is not None:
        steps.append(before[steps[-1]])
    return steps[::-1]
