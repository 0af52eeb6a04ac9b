"""Tables: rows of numbers that no run shows more than, and whether a table is one that each statement keeps."""

from farapart.inner import Inner
from farapart.kinds import is_integer
from farapart.outer import Outer, fresh_outer
from farapart.sides import REST, arrows_into, arrows_of, begins_of
from farapart.spots import is_one_of


def table(program):
    """Return the table of a program: the rows of Inner and those of Outer."""
    return (Inner(program).rows(), Outer(program).rows())


def is_table(program, inner, outer):
    """Return whether inner and outer, any values, are a closed table of a program."""
    inside = _told(program, inner, True)
    outside = _told(program, outer, False)
    if inside is None or outside is None:
        return False
    arrows = [arrow for name in program.names() for arrow in arrows_of(program, name)]
    entries = [arrow for name in program.names() for arrow in arrows_into(program, name)]
    if not all([_begins(program, name, inside, [REST]) for name in program.names()]):
        return False
    if not _begins(program, program.first, outside, []):
        return False
    return _keeps(program, inside, arrows, inside) and _keeps(program, outside, arrows + entries, inside)


def loosest(program, inner, outer):
    """Return the ascending list of the rows of outer that tell more than any moment shows."""
    exact = {row[:6]: row[6] for row in program.kept("outer", fresh_outer).rows()}
    return sorted([row for row in outer if row[:6] not in exact or not _covers(exact[row[:6]], row[6])])


def _told(program, thing, rests):
    """Return the dict from what rows tell of to their values, or None if thing, any value, is no list of such."""
    if not isinstance(thing, list) or not all([_is_row(program, row, rests) for row in thing]):
        return None
    found = {row[:6]: row[6] for row in thing}
    return found if len(found) == len(thing) else None


def _is_row(program, thing, rests):
    if not isinstance(thing, tuple) or len(thing) != 7 or thing[0] not in program:
        return False
    name, place, u, v, s, t, value = thing
    procedure = program[name]
    if not is_integer(place) or not 0 <= place < procedure.size:
        return False
    rest = [REST] if rests else []
    sources = [""] + rest + list(procedure.params if rests else program[program.first].params)
    if not is_one_of(u, procedure.uppers() + rest) or not is_one_of(v, procedure.lowers() + rest):
        return False
    return is_one_of(s, sources) and is_one_of(t, sources) and (is_integer(value) or is_one_of(value, ["endless"]))


def _begins(program, name, told, rest):
    """Return whether what is told has all that runs of a procedure begin with."""
    procedure = program[name]
    begins = begins_of(name, procedure, procedure.uppers() + rest, procedure.lowers() + rest)
    wanted = [node + pair for pair, nodes in begins.items() for node, _ in nodes]
    return all([key in told and _covers(told[key], 0) for key in wanted])


def _keeps(program, told, arrows, inside):
    """Return whether what is told has all that comes of it along arrows, by what is told of runs inside of calls."""
    leading = {}
    for arrow in arrows:
        leading.setdefault(arrow.origin, []).append(arrow)
    for key, value in told.items():
        for arrow in leading.get(key[:4], []):
            more = 0 if arrow.passage is None else inside.get(_at_end(program, arrow.passage))
            if more is not None and not _has(told, arrow.goal + key[4:], [value, arrow.number, more]):
                return False
    return True


def _at_end(program, passage):
    name, u, v, s, t = passage
    return (name, program[name].size - 1, u, v, s, t)


def _has(told, key, parts):
    return key in told and _covers(told[key], "endless" if "endless" in parts else sum(parts))


def _covers(value, wanted):
    """Return whether a value is at least another one."""
    return value == "endless" or (wanted != "endless" and value >= wanted)
