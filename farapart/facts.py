"""Facts: what is known of the numbers that a program begins with."""

from farapart.checks import are_names, check_arguments, is_row
from farapart.errors import NoName, NoStart, Unlike
from farapart.kinds import is_integer, is_source


class Facts:
    """Facts (x, y, c): x is at most y + c, for sources x and y."""

    def __init__(self, names, facts=()):
        check_arguments([are_names(names), _are_facts(facts)])
        _check_sources(names, facts)
        self._names = sorted(names)
        self._table = _closed(facts)

    def names(self):
        """Return the ascending list of the names."""
        return list(self._names)

    def greatest(self, x, y):
        """Return the greatest x - y of a start that keeps the facts, or "endless"."""
        self._check(x, y)
        if x == y:
            return 0
        return self._table.get((x, y), "endless")

    def bounds(self):
        """Return the ascending list of (x, y, g) of unlike sources with an integer g as the greatest."""
        return sorted([(x, y, c) for (x, y), c in self._table.items()])

    def keeps(self, thing):
        """Return whether thing, any value, is a start that keeps the facts."""
        if not isinstance(thing, dict) or len(thing) != len(self._names):
            return False
        if not all([name in thing and is_integer(thing[name]) for name in self._names]):
            return False
        numbers = {name: thing[name] for name in self._names}
        numbers[""] = 0
        return all([numbers[x] - numbers[y] <= c for (x, y), c in self._table.items()])

    def start_with(self, x, y, number):
        """Return a start that keeps the facts with x - y at least number, or None."""
        most = self.greatest(x, y)
        if most != "endless" and most < number:
            return None
        table = _closed(self.bounds() + [(y, x, -number)])
        zero = _lowest(table, "")
        return {name: _lowest(table, name) - zero for name in self._names}

    def with_fact(self, x, y, c):
        """Return the Facts with a fact more."""
        self._check(x, y)
        return Facts(self._names, self.bounds() + [(x, y, c)])

    def within(self, other):
        """Return whether each start that keeps these facts keeps the other ones."""
        if self._names != other.names():
            raise Unlike()
        found = [(self.greatest(x, y), g) for x, y, g in other.bounds()]
        return all([mine != "endless" and mine <= g for mine, g in found])

    def __and__(self, other):
        if self._names != other.names():
            raise Unlike()
        return Facts(self._names, self.bounds() + other.bounds())

    def __eq__(self, other):
        return isinstance(other, Facts) and self._names == other._names and self._table == other._table

    def _check(self, x, y):
        _check_sources(self._names, [(x, y, 0)])


def _are_facts(thing):
    return is_row(thing) and all([_is_fact(item) for item in thing])


def _is_fact(thing):
    if not isinstance(thing, tuple) or len(thing) != 3:
        return False
    return is_source(thing[0]) and is_source(thing[1]) and is_integer(thing[2])


def _check_sources(names, facts):
    known = {name: True for name in names}
    for x, y, _ in facts:
        for source in (x, y):
            if source != "" and source not in known:
                raise NoName(source)


def _tightest(facts):
    """Return the dict from the pairs of unlike sources to the least c of facts about them."""
    table = {}
    for x, y, c in facts:
        if x == y and c < 0:
            raise NoStart()
        if x != y and c < table.get((x, y), c + 1):
            table[x, y] = c
    return table


def _closed(facts):
    """Return the dict from all pairs that facts bound, by themselves or by others, to the bounds.

    The bounds are the shortest walks along the facts. A walk that goes round below 0
    shows up as a fact about one source, for which there is no start.
    """
    table = _tightest(facts)
    for middle in sorted({x for x, _ in table} & {y for _, y in table}):
        ahead = [(x, c) for (x, y), c in table.items() if y == middle]
        behind = [(y, c) for (x, y), c in table.items() if x == middle]
        known = [(x, y, c) for (x, y), c in table.items()]
        table = _tightest(known + [(x, y, c + d) for x, c in ahead for y, d in behind])
    return table


def _lowest(table, source):
    """Return a number for a source; those of all sources together keep a closed table."""
    return min([0] + [c for (x, _), c in table.items() if x == source])
