"""Sides: what the two numbers of a difference come of, along the ways of a procedure.

A side is a source, or REST for a number outside of a call, which rests. A node is a tuple (name, place,
u, v) of a procedure, one of its places, an upper side and a lower side. A passage is a tuple
(name, u, v, s, t): a whole run of a procedure at whose end u comes of s and v of t.
"""

from farapart.statements import is_call

REST = "*"


class Arrow:
    """An arrow from node to node, by which the difference of the sides becomes greater by a number.

    It goes along a way with an index: a "step", a "call", which a passage makes still greater, or "in" for
    the way into a call.
    """

    def __init__(self, origin, goal, number, word, index, passage):
        self.origin = origin
        self.goal = goal
        self.number = number
        self.word = word
        self.index = index
        self.passage = passage


def parts_of(statement, side):
    """Return the list of (y, c) of what a side comes of by a statement that is no call."""
    if statement[0] == "set":
        for x, y, c in statement[1]:
            if x == side:
                return [(y, c)]
    if statement[0] in ("most", "least") and statement[1] == side:
        return list(statement[2])
    return [(side, 0)]


def taken_of(statement, callee, side):
    """Return the list of (y, c, r, s) of what a side comes of by a call, its r coming of s in the call."""
    for x, r in zip(statement[3], callee.results):
        if x == side:
            given = [(y, c, r, s) for (y, c), s in zip(statement[2], callee.params)]
            return [("", 0, r, "")] + given
    return [(side, 0, REST, REST)]


def given_of(statement, callee, side):
    """Return (y, c) of what a side of a called procedure comes of as it begins."""
    for (y, c), x in zip(statement[2], callee.params):
        if x == side:
            return (y, c)
    return ("", 0)


def source_of(procedure, side):
    """Return the source that a side comes of at the beginning of a run."""
    return side if side == REST or side in procedure.params else ""


def begins_of(name, procedure, uppers, lowers):
    """Return the dict from (s, t) to the list of the (node, 0) at place 0 whose sides come of these."""
    found = {}
    for u in uppers:
        for v in lowers:
            pair = (source_of(procedure, u), source_of(procedure, v))
            found.setdefault(pair, []).append(((name, 0, u, v), 0))
    return found


def arrows_of(program, name):
    """Return the list of the arrows from the nodes of a procedure to nodes of the same one."""
    procedure = program[name]
    uppers = procedure.uppers() + [REST]
    lowers = procedure.lowers() + [REST]
    found = []
    for index, (begin, end, statement) in enumerate(procedure.ways()):
        if is_call(statement):
            callee = program[statement[1]]
            above = [(u, part) for u in uppers for part in taken_of(statement, callee, u)]
            below = [(v, part) for v in lowers for part in taken_of(statement, callee, v)]
            found += [
                Arrow((name, begin, a, b), (name, end, u, v), c - d, "call", index, (statement[1], ru, rv, sa, tb))
                for u, (a, c, ru, sa) in above for v, (b, d, rv, tb) in below
            ]
        else:
            above = [(u, part) for u in uppers for part in parts_of(statement, u)]
            below = [(v, part) for v in lowers for part in parts_of(statement, v)]
            found += [
                Arrow((name, begin, a, b), (name, end, u, v), c - d, "step", index, None)
                for u, (a, c) in above for v, (b, d) in below
            ]
    return found


def arrows_into(program, name):
    """Return the list of the arrows from the nodes of a procedure into what it calls, for numbers that show there."""
    found = []
    for index, (begin, _, statement) in enumerate(program[name].ways()):
        if is_call(statement):
            callee = program[statement[1]]
            above = [(u, given_of(statement, callee, u)) for u in callee.uppers()]
            below = [(v, given_of(statement, callee, v)) for v in callee.lowers()]
            found += [
                Arrow((name, begin, a, b), (statement[1], 0, u, v), c - d, "in", index, None)
                for u, (a, c) in above for v, (b, d) in below
            ]
    return found
