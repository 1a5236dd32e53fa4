"""Addresses, and the references that lead from one address to another one."""

from feedreader.errors import BadAddress
from feedreader.kinds import consists_of

LABEL_SIGNS = "abcdefghijklmnopqrstuvwxyz0123456789"
SEGMENT_SIGNS = "abcdefghijklmnopqrstuvwxyzABCDEFGHIJKLMNOPQRSTUVWXYZ0123456789-_."
DOTS = (".", "..")


def is_address(value):
    """Whether it is an address: a host and a path."""
    if not isinstance(value, str) or len(value) > 120 or not value.startswith("//"):
        return False
    host, slash, path = value[2:].partition("/")
    return slash == "/" and _is_host(host) and all([_is_segment(segment) for segment in path.split("/")])


def resolve(base, text):
    """The address to which a reference leads from a base (None: from nowhere), None if it leads nowhere."""
    check_base(base)
    if not isinstance(text, str):
        return None
    reference = text.partition("#")[0]
    if reference.startswith("//"):
        host, segments = _parts(reference)
        return _address_of(host.lower(), segments)
    if base is None:
        return None
    host, segments = _parts(base)
    return _address_of(host, _segments_behind(segments, reference))


def shortest(base, address):
    """The shortest reference that leads from a base to an address, the least one among several."""
    if not is_address(base):
        raise BadAddress(base)
    if not is_address(address):
        raise BadAddress(address)
    if base == address:
        return ""
    host, segments = _parts(base)
    goal_host, goal = _parts(address)
    if host != goal_host:
        return "//" + goal_host if goal == [""] else address
    ways = [_from_root(goal), _from_folder(segments[:-1], goal)]
    return min(ways, key=lambda text: (len(text), text))


def check_base(base):
    """Refuses what can be no base of references: what is neither None nor an address."""
    if base is not None and not is_address(base):
        raise BadAddress(base)


def written(base, address):
    """The reference by which an address is written: the shortest one, without a base the address itself."""
    return address if base is None else shortest(base, address)


def _is_host(text):
    """Whether it is the host of an address."""
    labels = text.split(".")
    return len(labels) <= 3 and all([_is_label(label) for label in labels])


def _is_label(text):
    """Whether it is a label of a host."""
    return 1 <= len(text) <= 10 and consists_of(text, LABEL_SIGNS)


def _is_segment(text):
    """Whether it is a segment of a path."""
    return len(text) <= 20 and text not in DOTS and consists_of(text, SEGMENT_SIGNS)


def _parts(text):
    """Host and segments of what begins as an address; one empty segment if nothing is behind the host."""
    host, _, path = text[2:].partition("/")
    return (host, path.split("/"))


def _segments_behind(segments, reference):
    """The segments that a reference without a host tells, from an address with these segments."""
    if reference == "":
        return segments
    if reference.startswith("/"):
        return reference[1:].split("/")
    return segments[:-1] + reference.split("/")


def _address_of(host, segments):
    """The address with this host and these segments, dots gone through, None if there is none."""
    address = "//" + host + "/" + "/".join(_without_dots(segments))
    return address if is_address(address) else None


def _without_dots(segments):
    """The segments that are left when those of dots have been gone through."""
    kept = []
    for segment in segments:
        if segment not in DOTS:
            kept.append(segment)
        elif segment == ".." and kept:
            kept.pop()
    return kept + [""] if segments[-1] in DOTS else kept


def _from_root(goal):
    """The shortest reference with a slash at its beginning that leads to a path with these segments."""
    # Two slashes at the beginning would stand for a host, so a segment that goes is put ahead.
    ahead = "/." if len(goal) > 1 and goal[0] == "" else ""
    return ahead + "/" + "/".join(goal)


def _from_folder(folder, goal):
    """The shortest reference without a slash at its beginning that leads from a folder to a path."""
    shared = _shared_count(folder, goal[:-1])
    ups = [".."] * (len(folder) - shared)
    rest = goal[shared:]
    if rest == [""]:
        # Dots at the end put the empty segment there by themselves.
        return "/".join(ups) if ups else "."
    if not ups and rest[0] == "":
        # A slash at the beginning would leave the folder.
        return "./" + "/".join(rest)
    return "/".join(ups + rest)


def _shared_count(one, other):
    """How many elements at their beginnings two lists have in common."""
    count = 0
    for left, right in zip(one, other):
        if left != right:
            return count
        count += 1
    return count
