"""Watches, which keep the result of a query up to date."""

from feedreader.searches import check_query, search


class Watch:
    """Keeps what a search of a library had as its result, and tells at each step what has become of it."""

    def __init__(self, library, query):
        check_query(query)
        self._library = library
        self._query = query
        self._result = ()

    @property
    def result(self):
        """The tuple of the rows that fitted at the last step."""
        return self._result

    def step(self):
        """Brings the result up to date; tells the places of the rows that left it, descending, and those that came."""
        old = self._result
        new = search(self._library, self._query)
        left = _places_of_others(old, new)
        came = [(place, new[place]) for place in _places_of_others(new, old)]
        self._result = new
        return (tuple(left[::-1]), tuple(came))


def _places_of_others(rows, known):
    """The ascending list of the places of those rows that are not among the known ones."""
    keys = {_key(row) for row in known}
    return [place for place, row in enumerate(rows) if _key(row) not in keys]


def _key(row):
    """By what rows are told apart."""
    return (row[0].order,) + row[1:]
