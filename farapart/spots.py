"""Spots: what is asked of places and names before anything is told of them."""

from farapart.errors import NoName, NotFar, Unlike
from farapart.kinds import is_integer


def check_sides(procedure, sides, sources, u, v, s, t):
    """Raise NoName for the first of u, v, s, t that is no side or no source; NotFar for a low u, then a high v."""
    for side, known in ((u, sides), (v, sides), (s, sources), (t, sources)):
        if side not in known:
            raise NoName(side)
    names = procedure.names()
    if u in names and procedure.kind(u) == "low":
        raise NotFar(u)
    if v in names and procedure.kind(v) == "high":
        raise NotFar(v)


def check_spots(program, facts, spots):
    """Raise what a program, facts and spots raise that do not go together."""
    if facts.names() != sorted(program[program.first].params):
        raise Unlike()
    for spot in spots:
        check_spot(program, spot)


def check_spot(program, spot):
    """Raise what a spot raises that there is not in a program."""
    name, place, x, y = spot
    procedure = program[name]
    procedure.out(place)  # for its error
    sources = [""] + procedure.names()
    check_sides(procedure, sources, sources, x, y, "", "")


def is_spot(program, thing):
    """Return whether thing, a tuple of four values of any kind, is a spot that there is in a program."""
    name, place, x, y = thing
    if name not in program or not is_integer(place) or not 0 <= place < program[name].size:
        return False
    return is_one_of(x, program[name].uppers()) and is_one_of(y, program[name].lowers())


def is_one_of(thing, words):
    """Return whether thing, any value, is one of some strings."""
    return isinstance(thing, str) and thing in words
