"""Claims: (name, place, x, y, c) says that x - y is at most c at each moment that shows the place."""

from farapart.beyond import beyond
from farapart.far import far
from farapart.kinds import is_integer
from farapart.spots import check_spots, is_spot


def is_claim(program, thing):
    """Return whether thing, any value, is a claim of a program."""
    return isinstance(thing, tuple) and len(thing) == 5 and is_spot(program, thing[:4]) and is_integer(thing[4])


def holds(program, facts, claim):
    """Return whether a claim holds for all runs and all starts that keep the facts."""
    return len(broken(program, facts, [claim])) == 0


def broken(program, facts, claims):
    """Return the ascending list of the indexes of the claims that do not hold."""
    check_spots(program, facts, [claim[:4] for claim in claims])
    return [index for index, claim in enumerate(claims) if _is_exceeded(far(program, facts, claim[:4]), claim[4])]


def counter(program, facts, claim):
    """Return (rows, start) of a moment and a start with which a claim does not hold, or None if it always does."""
    if holds(program, facts, claim):
        return None
    return beyond(program, facts, claim[:4], claim[4])


def _is_exceeded(most, limit):
    return most == "endless" or (most is not None and most > limit)
