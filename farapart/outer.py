"""Outer: how far apart two numbers of each procedure can be, wherever a run of the program shows them."""

from farapart.paving import Paving
from farapart.pumps import pumped_moment
from farapart.sides import REST, arrows_into, begins_of
from farapart.spots import check_sides
from farapart.summaries import fresh_summaries
from farapart.webs import Weighing, leads, trace


class Outer:
    """The greatest differences that moments show, by the parameters of the first procedure."""

    def __init__(self, program):
        self._program = program
        self._summaries = program.kept("summaries", fresh_summaries)
        self._arrows = [arrow for name in program.names() for arrow in self._arrows_of(name)]
        self._web = self._summaries.web(self._arrows)
        first = program[program.first]
        self._begins = begins_of(program.first, first, first.uppers(), first.lowers())
        self._weighings = {pair: Weighing(self._web, nodes) for pair, nodes in self._begins.items()}

    def value(self, name, place, u, v, s, t):
        """Return the greatest a - b with u coming of s with a and v of t with b, "endless" or None."""
        procedure = self._program[name]
        procedure.out(place)  # for its error
        first = self._program[self._program.first]
        check_sides(procedure, [""] + procedure.names(), [""] + list(first.params), u, v, s, t)
        return self._value((name, place, u, v), (s, t))

    def rows(self):
        """Return the ascending list of (name, place, u, v, s, t, value) of all values but None."""
        return sorted([
            node + pair + (value,)
            for pair, weighing in self._weighings.items() for node, value in weighing.weights.items()
        ])

    def comes(self, name, place):
        """Return whether a place is come to."""
        self._program[name].out(place)  # for its error
        return self._value((name, place, "", ""), ("", "")) is not None

    def rows_at(self, spot):
        """Return the ascending list of the rows of a spot (name, place, x, y)."""
        found = [(pair, weighing.weights.get(spot)) for pair, weighing in self._weighings.items()]
        return sorted([spot + pair + (value,) for pair, value in found if value is not None])

    def best_rows(self, spot, s, t):
        """Return rows of roads, the last of which is a moment at a spot that shows a value which is an integer."""
        walk = self._walk(self._weighings[s, t].best_walk(spot)[1])
        paving = Paving(self._summaries)
        paving.moment(self._program.first, paving.pieces(walk, self._summaries.last_level()))
        return paving.rows()

    def first_rows(self, name, place):
        """Return rows of roads, the last of which is a moment at a place that is come to."""
        ahead = leads(self._web, self._begins["", ""])
        walk = self._walk(trace(ahead, (name, place, "", ""))[1])
        paving = Paving(self._summaries)
        paving.moment(self._program.first, paving.first_pieces(walk))
        return paving.rows()

    def endless_rows(self, spot, s, t):
        """Return (rows, base, gain) of a moment at a spot whose value is endless: see pumps."""
        word, _, lead, middle, tail = self._weighings[s, t].why_endless(spot)
        ground = (word, self._walk(lead), self._walk(middle), self._walk(tail))
        paving = Paving(self._summaries)
        base, gain = pumped_moment(paving, self._summaries, self._program.first, ground)
        return paving.rows(), base, gain

    def _value(self, node, pair):
        return self._weighings[pair].weights.get(node) if pair in self._weighings else None

    def _walk(self, indexes):
        return [self._arrows[index] for index in indexes]

    def _arrows_of(self, name):
        """Return the list of the arrows of a procedure, and into calls, for numbers that show."""
        own = [arrow for arrow in self._summaries.arrows(name) if REST not in arrow.origin + arrow.goal]
        return own + arrows_into(self._program, name)


def fresh_outer(program):
    """Return the Outer of a program."""
    return Outer(program)
