"""Texts whose format shows from the text itself."""

from feedreader.addresses import check_base
from feedreader.errors import BadText
from feedreader.nest import read_nest
from feedreader.rows import read_rows


def read_feed(text, base=None):
    """The page that a text in nest or in rows tells, and the remarks on it."""
    check_base(base)
    if not isinstance(text, str):
        raise BadText(0, 0)
    if text.lstrip(" \n").startswith("("):
        return read_nest(text, base)
    return read_rows(text, base)
