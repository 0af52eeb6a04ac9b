"""Beyond: runs and starts that show a difference greater than any number, where it is endless."""

from farapart.errors import Never
from farapart.far import far
from farapart.outer import fresh_outer
from farapart.reasons import reason


def beyond(program, facts, spot, number):
    """Return (rows, start) with x - y at a spot greater than a number, or None if none is greater."""
    most = far(program, facts, spot)
    if most is None:
        raise Never()
    if most != "endless":
        return reason(program, facts, spot) if most > number else None
    grown = growth(program, facts, spot)
    if grown is None:
        return _from_far_starts(program, facts, spot, number)
    rows, start, base, gain = grown
    many = max(1, (number - base) // gain + 1)
    return [row[:2] + (many,) if row[0] in ("again", "times") else row for row in rows], start


def growth(program, facts, spot):
    """Return (rows, start, base, gain) with one row that makes x - y at a spot greater by gain each time, or None."""
    if far(program, facts, spot) is None:
        raise Never()
    outer = program.kept("outer", fresh_outer)
    start = facts.start_with("", "", 0)
    numbers = {**start, "": 0}
    for _, _, _, _, s, t, value in outer.rows_at(spot):
        if value == "endless":
            rows, base, gain = outer.endless_rows(spot, s, t)
            return rows, start, base + numbers[s] - numbers[t], gain
    return None


def _from_far_starts(program, facts, spot, number):
    """Return (rows, start) with a start whose numbers are far enough apart, as the facts let them be."""
    outer = program.kept("outer", fresh_outer)
    for _, _, _, _, s, t, value in outer.rows_at(spot):
        if facts.greatest(s, t) == "endless":
            return outer.best_rows(spot, s, t), facts.start_with(s, t, number + 1 - value)
