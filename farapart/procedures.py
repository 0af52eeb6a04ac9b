"""Procedures: names with kinds, places, and ways with statements between them."""

from farapart.checks import are_names, check_arguments, is_row
from farapart.errors import BadKind, NoName, NoPlace, NoWay
from farapart.kinds import fits, is_integer, is_kind, is_name
from farapart.statements import frozen, is_statement, reads, sets, with_names, with_number

# The kind that the name has which a statement of a word makes the greatest or the least of its parts.
WANTED = {"most": "high", "least": "low"}


class Procedure:
    """A procedure, which begins at place 0 and ends at its last place."""

    def __init__(self, names, params, results, size, ways):
        check_arguments([
            _are_kinds(names),
            are_names(params),
            are_names(results),
            is_integer(size) and size >= 1,
            _are_ways(ways),
        ])
        self._kinds = {name: names[name] for name in sorted(names)}
        self._params = tuple(params)
        self._results = tuple(results)
        self._size = size
        self._ways = [(begin, end, frozen(statement)) for begin, end, statement in ways]
        _check_names(self._kinds, self._params + self._results, self._ways)
        _check_places(self._size, self._ways)
        _check_kinds(self._kinds, self._ways)

    @property
    def params(self):
        """The tuple of the parameters."""
        return self._params

    @property
    def results(self):
        """The tuple of the results."""
        return self._results

    @property
    def size(self):
        """The number of the places."""
        return self._size

    def names(self):
        """Return the ascending list of the names."""
        return list(self._kinds)

    def kinds(self):
        """Return the dict from the names to their kinds."""
        return {name: kind for name, kind in self._kinds.items()}

    def kind(self, source):
        """Return the kind of a source."""
        if source == "":
            return "plain"
        if not is_name(source) or source not in self._kinds:
            raise NoName(source)
        return self._kinds[source]

    def uppers(self):
        """Return the ascending list of the sources that are plain or high."""
        return [""] + [name for name in self._kinds if self._kinds[name] != "low"]

    def lowers(self):
        """Return the ascending list of the sources that are plain or low."""
        return [""] + [name for name in self._kinds if self._kinds[name] != "high"]

    def ways(self):
        """Return the list of the ways."""
        return list(self._ways)

    def way(self, index):
        """Return the way with an index."""
        if not 0 <= index < len(self._ways):
            raise NoWay(index)
        return self._ways[index]

    def out(self, place):
        """Return the ascending list of the indexes of the ways from a place."""
        if not 0 <= place < self._size:
            raise NoPlace(place)
        return [index for index, way in enumerate(self._ways) if way[0] == place]

    def with_way(self, way):
        """Return the Procedure with a way, any value, behind the others."""
        return self._with_ways(self._ways + [way])

    def without_way(self, index):
        """Return the Procedure without one of the ways."""
        self.way(index)  # for its error
        return self._with_ways(self._ways[:index] + self._ways[index + 1:])

    def with_number(self, index, at, number):
        """Return the Procedure with another integer in the statement of a way."""
        begin, end, statement = self.way(index)
        changed = (begin, end, with_number(statement, at, number))
        return self._with_ways(self._ways[:index] + [changed] + self._ways[index + 1:])

    def renamed(self, names):
        """Return the Procedure with other names; names is a dict from its own to these."""
        kinds = {names[name]: kind for name, kind in self._kinds.items()}
        params = [names[name] for name in self._params]
        results = [names[name] for name in self._results]
        ways = [(begin, end, with_names(statement, names)) for begin, end, statement in self._ways]
        return Procedure(kinds, params, results, self._size, ways)

    def __len__(self):
        return len(self._ways)

    def __eq__(self, other):
        return isinstance(other, Procedure) and self._told() == other._told()

    def _told(self):
        return (self._kinds, self._params, self._results, self._size, self._ways)

    def _with_ways(self, ways):
        return Procedure(self._kinds, self._params, self._results, self._size, ways)


def _are_kinds(thing):
    if not isinstance(thing, dict):
        return False
    return all([is_name(name) and is_kind(kind) for name, kind in thing.items()])


def _are_ways(thing):
    return is_row(thing) and all([_is_way(item) for item in thing])


def _is_way(thing):
    if not is_row(thing) or len(thing) != 3:
        return False
    return _is_place(thing[0]) and _is_place(thing[1]) and is_statement(thing[2])


def _is_place(thing):
    return is_integer(thing) and thing >= 0


def _check_names(kinds, ends, ways):
    for name in ends:
        if name not in kinds:
            raise NoName(name)
    for _, _, statement in ways:
        for name in sorted(sets(statement) + reads(statement)):
            if name not in kinds:
                raise NoName(name)


def _check_places(size, ways):
    for begin, end, _ in ways:
        for place in (begin, end):
            if place >= size:
                raise NoPlace(place)


def _check_kinds(kinds, ways):
    for _, _, statement in ways:
        for x, y in _flows(statement):
            wanted = WANTED.get(statement[0], kinds[x])
            if kinds[x] != wanted or not fits(kinds.get(y, "plain"), kinds[x]):
                raise BadKind(x)


def _flows(statement):
    """Return the list of (x, y) of a name and what is a part of it by a statement; none of calls."""
    if statement[0] == "set":
        return [(x, y) for x, y, _ in statement[1]]
    if statement[0] in WANTED:
        return [(statement[1], y) for y, _ in statement[2]]
    return []
