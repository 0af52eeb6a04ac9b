"""Alike: programs that tell the same at spots, ways that make no difference, and calls that are laid into callers."""

from farapart.errors import NotSo
from farapart.far import far
from farapart.kinds import LETTERS
from farapart.procedures import Procedure
from farapart.spots import check_spots
from farapart.statements import is_call, with_names


def same_far(one, other, facts, spots):
    """Return whether far of both programs is the same at all spots."""
    return parted(one, other, facts, spots) is None


def parted(one, other, facts, spots):
    """Return (spot, of the one, of the other) of the first spot at which far is not the same, or None."""
    check_spots(one, facts, spots)
    check_spots(other, facts, spots)
    for spot in spots:
        mine = far(one, facts, spot)
        others = far(other, facts, spot)
        if mine != others:
            return (spot, mine, others)
    return None


def idle_ways(program, facts, spots):
    """Return the ascending list of (name, index) of the ways without any one of which far is the same at all spots."""
    check_spots(program, facts, spots)
    ways = [(name, index) for name in program.names() for index in range(len(program[name]))]
    return [(name, index) for name, index in ways if same_far(program, _without(program, name, index), facts, spots)]


def inlined(program, name, index):
    """Return a program in which a call is laid into its caller, with places, names and ways behind the caller's own."""
    caller = program[name]
    begin, end, statement = caller.way(index)
    if not is_call(statement):
        raise NotSo(index)
    callee = program[statement[1]]
    names = _new_names(callee.names(), caller.names())
    kinds = {**caller.kinds(), **{names[x]: callee.kind(x) for x in callee.names()}}
    inner, outer = caller.size, caller.size + callee.size
    ways = caller.ways()
    ways[index] = (begin, inner, _entering(statement, callee, names))
    ways += [(inner + one, inner + other, with_names(within, names)) for one, other, within in callee.ways()]
    ways += [(outer - 1, end, _leaving(statement, callee, names)), (inner - 1, outer, ("skip",))]
    return program.with_procedure(name, Procedure(kinds, caller.params, caller.results, outer + 1, ways))


def _without(program, name, index):
    return program.with_procedure(name, program[name].without_way(index))


def _entering(statement, callee, names):
    """Return the set by which the names of a called procedure become what they begin with."""
    given = {x: part for x, part in zip(callee.params, statement[2])}
    return ("set", [(names[x],) + given.get(x, ("", 0)) for x in callee.names()])


def _leaving(statement, callee, names):
    """Return the set by which the results of a call become what the called procedure has for them."""
    return ("set", [(x, names[y], 0) for x, y in zip(statement[3], callee.results)])


def _new_names(names, taken):
    """Return the dict from names to different ones that are not taken."""
    free = [word for word in _first_names(len(names) + len(taken)) if word not in taken]
    return {name: word for name, word in zip(names, free)}


def _first_names(many):
    """Return the list of so many names, the shortest ones."""
    found = [""]
    for shorter in range(many):
        if len(found) > many:
            break
        found += [found[shorter] + letter for letter in LETTERS]
    return found[1:many + 1]
