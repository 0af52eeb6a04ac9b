"""Slack: by how much one integer of a program can be made greater so that claims hold.

How far two numbers can be from one another is the greatest of sums in which this amount, d, counts so many times.
To tell how many times, all integers are scaled up, and the one is made greater by 1 more: what this 1 comes to
is far less than the scale, and tells how the difference goes on as d goes on by a step of 1 or -1.
"""

from farapart.claims import broken
from farapart.outer import fresh_outer
from farapart.procedures import Procedure
from farapart.programs import Program
from farapart.spots import check_spots
from farapart.statements import numbers, with_numbers

# Told of a claim that is broken with all further d, whether or not it is with this one.
LAST = "last"


class Dial:
    """A program with one integer that is made greater by any d, and its integers times a scale."""

    def __init__(self, program, way, scale):
        name, index, at = way
        self._program = program
        self._scaled = _times(program, scale)
        self._way = way
        self._number = numbers(program[name].way(index)[2])[at]
        self.scale = scale

    def turned(self, d):
        """Return the Program with the integer greater by d."""
        name, index, at = self._way
        return self._program.with_number(name, index, at, self._number + d)

    def scaled(self, d, step):
        """Return the Program with the integer greater by d, all times the scale, and by a step more."""
        name, index, at = self._way
        return self._scaled.with_number(name, index, at, self.scale * (self._number + d) + step)


def slack(program, facts, claims, name, index, at):
    """Return (low, high): just with d from low to high all claims hold; None if with no d."""
    check_spots(program, facts, [claim[:4] for claim in claims])
    program.with_number(name, index, at, 0)  # for its errors
    if any([_is_never_kept(program, facts, claim) for claim in claims]):
        return None
    dial = Dial(program, (name, index, at), 4 * _longest(program))
    far_out = dial.scale * (_greatest(program, facts, claims) + 1)
    low = _first_right(dial, facts, claims, -far_out, 1)
    if low is None:
        return None
    return (low, _first_right(dial, facts, claims, far_out, -1))


def _is_never_kept(program, facts, claim):
    """Return whether the facts alone let x - y be as great as one likes, which no integer of the program changes."""
    rows = program.kept("outer", fresh_outer).rows_at(claim[:4])
    return any([facts.greatest(s, t) == "endless" for _, _, _, _, s, t, _ in rows])


def _first_right(dial, facts, claims, begin, step):
    """Return the first d from begin on, going on by steps of 1 or -1, with which all claims hold.

    It is "endless" if begin itself is right, as it lies beyond all ends that there can be, and None if none is right.
    """
    d = begin
    while True:
        program = dial.scaled(d, step)
        found = [_steps_needed(program, facts, claim, dial.scale) for claim in claims]
        if None in found:
            return None
        if LAST in found:
            return d if not broken(dial.turned(d), facts, claims) else None
        many = max(found, default=0)
        if many == 0:
            return "endless" if d == begin else d
        d += step * many


def _steps_needed(program, facts, claim, scale):
    """Return how many steps are needed at least until a claim holds, 0 if it does; LAST, or None if no steps help."""
    outer = program.kept("outer", fresh_outer)
    found = [0]
    for _, _, _, _, s, t, value in outer.rows_at(claim[:4]):
        if value == "endless":
            _, _, gain = outer.endless_rows(claim[:4], s, t)
            found.append(_steps_down(gain, 0, scale) if gain > scale // 2 else LAST)
        else:
            found.append(_steps_down(value, claim[4] - facts.greatest(s, t), scale))
    if None in found:
        return None
    return LAST if LAST in found else max(found)


def _steps_down(scaled, limit, scale):
    """Return how many steps are needed until what is told scaled is not more than a limit; None if no steps help."""
    now = (scaled + scale // 2) // scale
    lost = scale * now - scaled
    if now <= limit:
        return 0
    return -((limit - now) // lost) if lost > 0 else None


def _times(program, scale):
    """Return a program with all integers times a scale."""
    return Program({name: _procedure_times(program[name], scale) for name in program.names()}, program.first)


def _procedure_times(procedure, scale):
    ways = [
        (begin, end, with_numbers(statement, [scale * number for number in numbers(statement)]))
        for begin, end, statement in procedure.ways()
    ]
    return Procedure(procedure.kinds(), procedure.params, procedure.results, procedure.size, ways)


def _longest(program):
    """Return a number that is not less than that of the ways of a short run, or of a short part of one.

    Short is what comes to no two sides at a place twice within one run, and goes into no passage within itself.
    Such runs, and such parts that go round or within themselves, are enough to tell how far numbers can be apart.
    """
    procedures = [program[name] for name in program.names()]
    nodes = sum([procedure.size * (len(procedure.names()) + 2) ** 2 for procedure in procedures])
    called = [program[name] for name in program.rings()]
    passages = sum([(len(one.results) + 1) ** 2 * (len(one.params) + 2) ** 2 for one in called])
    return 1 << nodes.bit_length() * (len(procedures) + passages + 3)


def _greatest(program, facts, claims):
    """Return the greatest amount of an integer of a program, of facts, or of claims."""
    written = [c for name in program.names() for _, _, statement in program[name].ways() for c in numbers(statement)]
    given = [g for _, _, g in facts.bounds()] + [claim[4] for claim in claims]
    return max([abs(number) for number in written + given], default=0)
