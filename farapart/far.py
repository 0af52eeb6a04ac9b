"""Far: how far two numbers of a program can be from one another at a place, or at all places."""

from farapart.errors import NotFar
from farapart.outer import fresh_outer
from farapart.spots import check_spots


def far(program, facts, spot):
    """Return the greatest x - y that is shown at a spot from starts that keep facts, "endless" or None."""
    check_spots(program, facts, [spot])
    return _far(program, facts, spot)


def far_in(program, facts, name, x, y):
    """Return the greatest x - y that is shown over all places of a procedure, "endless" or None."""
    check_spots(program, facts, [(name, 0, x, y)])
    found = [_far(program, facts, (name, place, x, y)) for place in range(program[name].size)]
    return _greatest([value for value in found if value is not None])


def constant(program, facts, spot):
    """Return the integer that x - y always is at a spot, or None."""
    check_spots(program, facts, [spot])
    check_plain(program, spot)
    name, place, x, y = spot
    above = _far(program, facts, spot)
    below = _far(program, facts, (name, place, y, x))
    if above in (None, "endless") or below in (None, "endless") or above != -below:
        return None
    return above


def check_plain(program, spot):
    """Raise NotFar for the first of x and y of a spot that is not plain."""
    name, _, x, y = spot
    for source in (x, y):
        if program[name].kind(source) != "plain":
            raise NotFar(source)


def known(facts, rows, spot):
    """Return the greatest x - y at a spot by rows in the form of those of Outer, "endless" or None."""
    found = [row for row in rows if row[:4] == spot]
    return _greatest([_sum(value, facts.greatest(s, t)) for _, _, _, _, s, t, value in found])


def _far(program, facts, spot):
    return known(facts, program.kept("outer", fresh_outer).rows_at(spot), spot)


def _sum(one, other):
    return "endless" if one == "endless" or other == "endless" else one + other


def _greatest(values):
    return "endless" if "endless" in values else max(values, default=None)
