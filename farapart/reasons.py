"""Reasons: runs and starts that show how far two numbers can be from one another."""

from farapart.errors import BadRow, Endless, Never
from farapart.far import far
from farapart.outer import fresh_outer
from farapart.roads import Roads
from farapart.spots import check_spots


def reason(program, facts, spot):
    """Return (rows, start): a moment and a start with which x - y at a spot is as great as it can be."""
    most = far(program, facts, spot)
    if most is None:
        raise Never()
    if most == "endless":
        raise Endless()
    outer = program.kept("outer", fresh_outer)
    for _, _, _, _, s, t, value in outer.rows_at(spot):
        apart = facts.greatest(s, t)
        if value + apart == most:
            return outer.best_rows(spot, s, t), facts.start_with(s, t, apart)


def way_to(program, name, place):
    """Return the rows of a moment at a place, or None if it is not come to."""
    outer = program.kept("outer", fresh_outer)
    if not outer.comes(name, place):
        return None
    return outer.first_rows(name, place)


def is_reason(program, facts, spot, number, thing):
    """Return whether thing, any value, is a tuple (rows, start) that shows x - y to be number at a spot."""
    check_spots(program, facts, [spot])
    if not isinstance(thing, tuple) or len(thing) != 2 or not isinstance(thing[0], list):
        return False
    rows, start = thing
    if len(rows) == 0 or not facts.keeps(start):
        return False
    try:
        roads = Roads(program, rows)
    except BadRow:
        return False
    last = len(roads) - 1
    if roads.kind(last) != "moment" or roads.procedure(last) != program.first:
        return False
    name, place, numbers = roads.shows(last, start)
    if (name, place) != spot[:2]:
        return False
    numbers[""] = 0
    return numbers[spot[2]] - numbers[spot[3]] == number
