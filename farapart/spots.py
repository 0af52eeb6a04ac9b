"""Spots: what is asked of places and names before anything is told of them."""

from farapart.errors import NoName, NotFar, Unlike


def check_sides(procedure, sides, sources, u, v, s, t):
    """Raise NoName for the first of u, v, s, t that is no side or no source; NotFar for a low u, then a high v."""
    for side, known in ((u, sides), (v, sides), (s, sources), (t, sources)):
        if side not in known:
            raise NoName(side)
    names = procedure.names()
    if u in names and procedure.kind(u) == "low":
        raise NotFar(u)
    if v in names and procedure.kind(v) == "high":
        raise NotFar(v)


def check_spots(program, facts, spots):
    """Raise what a program, facts and spots raise that do not go together."""
    if facts.names() != sorted(program[program.first].params):
        raise Unlike()
    for spot in spots:
        check_spot(program, spot)


def check_spot(program, spot):
    """Raise what a spot raises that there is not in a program."""
    name, place, x, y = spot
    procedure = program[name]
    procedure.out(place)  # for its error
    sources = [""] + procedure.names()
    check_sides(procedure, sources, sources, x, y, "", "")
