"""Inner: how much a run of each procedure makes differences greater, from its beginning to its places."""

from farapart.errors import NoProc
from farapart.sides import REST
from farapart.spots import check_sides
from farapart.summaries import fresh_summaries


class Inner:
    """The greatest differences of a procedure's sides, by what they come of at the beginning of its run."""

    def __init__(self, program):
        self._program = program
        self._summaries = program.kept("summaries", fresh_summaries)

    def value(self, name, place, u, v, s, t):
        """Return the greatest a - b with u coming of s with a and v of t with b, "endless" or None."""
        procedure = self._program[name]
        procedure.out(place)  # for its error
        check_sides(procedure, [REST, ""] + procedure.names(), [REST, ""] + list(procedure.params), u, v, s, t)
        weighing = self._summaries.weighing(name, s, t)
        return None if weighing is None else weighing.weights.get((name, place, u, v))

    def rows(self):
        """Return the ascending list of (name, place, u, v, s, t, value) of all values but None."""
        return sorted([
            (name, place, u, v, s, t, value)
            for _, s, t, weighing in self._summaries.weighings()
            for (name, place, u, v), value in weighing.weights.items()
        ])

    def ends(self, name):
        """Return whether a procedure has a whole run."""
        if name not in self._program:
            raise NoProc(name)
        return self._summaries.first_found((name, REST, REST, REST, REST)) is not None
