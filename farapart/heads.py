"""Heads: what a row of roads is, worked out from its items and from the heads of the rows ahead of it."""

from farapart.checks import is_row
from farapart.kinds import is_integer
from farapart.statements import is_call


class Head:
    """What a row is.

    shape is "part", "run", "context", "entry" or "moment", owner the procedure that it begins in, wants the one that
    it wants, or None, places those from which and to which a part leads, or None, steps the number of its ways.
    """

    def __init__(self, shape, owner, wants, places, steps):
        self.shape = shape
        self.owner = owner
        self.wants = wants
        self.places = places
        self.steps = steps


def head_of(program, heads, row):
    """Return the head of a row, any value, behind the rows with these heads; None if it is no row there."""
    if not isinstance(row, tuple) or len(row) == 0 or not isinstance(row[0], str) or row[0] not in WORDS:
        return None
    told = WORDS[row[0]]
    return told(program, heads, row)


def frozen_row(row):
    """Return a row with tuples for lists."""
    return tuple([tuple(item) if is_row(item) else item for item in row])


def used_rows(row):
    """Return the list of the numbers of the rows that a row uses."""
    return [row[at] for at in USED[row[0]] if row[at] is not None]


def _earlier(heads, number, shape):
    """Return the head of an earlier row of a shape, or None if number, any value, is not that of such a row."""
    if not is_integer(number) or not 0 <= number < len(heads) or heads[number].shape != shape:
        return None
    return heads[number]


def _way(program, name, index):
    """Return a way of a procedure, or None if index, any value, is that of no way."""
    if not is_integer(index) or not 0 <= index < len(program[name]):
        return None
    return program[name].way(index)


def _call(program, name, index):
    """Return the way of a call of a procedure, or None if index, any value, is that of no call."""
    way = _way(program, name, index)
    return way if way is not None and is_call(way[2]) else None


def _is_many(thing):
    return is_integer(thing) and thing >= 1


def _steps(program, heads, row):
    if len(row) != 4 or row[1] not in program or not is_integer(row[2]) or not is_row(row[3]):
        return None
    _, name, begin, indexes = row
    if not 0 <= begin < program[name].size:
        return None
    place = begin
    for index in indexes:
        way = _way(program, name, index)
        if way is None or way[0] != place or is_call(way[2]):
            return None
        place = way[1]
    return Head("part", name, None, (begin, place), len(indexes))


def _along_call(program, heads, row):
    if len(row) != 4 or row[1] not in program:
        return None
    way = _call(program, row[1], row[2])
    run = _earlier(heads, row[3], "run")
    if way is None or run is None or run.owner != way[2][1]:
        return None
    return Head("part", row[1], None, (way[0], way[1]), 1 + run.steps)


def _then(program, heads, row):
    if len(row) != 3:
        return None
    one = _earlier(heads, row[1], "part")
    other = _earlier(heads, row[2], "part")
    if one is None or other is None or one.owner != other.owner or one.places[1] != other.places[0]:
        return None
    return Head("part", one.owner, None, (one.places[0], other.places[1]), one.steps + other.steps)


def _again(program, heads, row):
    if len(row) != 3 or not _is_many(row[2]):
        return None
    part = _earlier(heads, row[1], "part")
    if part is None or part.places[0] != part.places[1]:
        return None
    return Head("part", part.owner, None, part.places, part.steps * row[2])


def _run(program, heads, row):
    part = _earlier(heads, row[1], "part") if len(row) == 2 else None
    if part is None or part.places != (0, program[part.owner].size - 1):
        return None
    return Head("run", part.owner, None, None, part.steps)


def _around(program, heads, row):
    if len(row) != 4:
        return None
    one = _earlier(heads, row[1], "part")
    other = _earlier(heads, row[3], "part")
    if one is None or other is None or one.owner != other.owner:
        return None
    way = _call(program, one.owner, row[2])
    if way is None or one.places != (0, way[0]) or other.places != (way[1], program[one.owner].size - 1):
        return None
    return Head("context", one.owner, way[2][1], None, one.steps + 1 + other.steps)


def _nested(heads, row, shape):
    """Return the head of a context or an entry with another one in what it wants."""
    if len(row) != 3:
        return None
    one = _earlier(heads, row[1], shape)
    other = _earlier(heads, row[2], shape)
    if one is None or other is None or other.owner != one.wants:
        return None
    return Head(shape, one.owner, other.wants, None, one.steps + other.steps)


def _within(program, heads, row):
    return _nested(heads, row, "context")


def _deeper(program, heads, row):
    return _nested(heads, row, "entry")


def _times(program, heads, row):
    if len(row) != 3 or not _is_many(row[2]):
        return None
    one = _earlier(heads, row[1], "context")
    if one is None:
        one = _earlier(heads, row[1], "entry")
    if one is None or one.owner != one.wants:
        return None
    return Head(one.shape, one.owner, one.wants, None, one.steps * row[2])


def _filled(program, heads, row):
    if len(row) != 3:
        return None
    context = _earlier(heads, row[1], "context")
    run = _earlier(heads, row[2], "run")
    if context is None or run is None or run.owner != context.wants:
        return None
    return Head("run", context.owner, None, None, context.steps + run.steps)


def _enter(program, heads, row):
    part = _earlier(heads, row[1], "part") if len(row) == 3 else None
    if part is None:
        return None
    way = _call(program, part.owner, row[2])
    if way is None or part.places != (0, way[0]):
        return None
    return Head("entry", part.owner, way[2][1], None, part.steps + 1)


def _moment(program, heads, row):
    part = _earlier(heads, row[2], "part") if len(row) == 3 else None
    if part is None or part.places[0] != 0:
        return None
    if row[1] is None:
        return Head("moment", part.owner, None, None, part.steps)
    entry = _earlier(heads, row[1], "entry")
    if entry is None or entry.wants != part.owner:
        return None
    return Head("moment", entry.owner, None, None, entry.steps + part.steps)


# What makes the head of a row, by its word.
WORDS = {
    "steps": _steps, "call": _along_call, "then": _then, "again": _again, "run": _run, "around": _around,
    "within": _within, "times": _times, "filled": _filled, "enter": _enter, "deeper": _deeper, "moment": _moment,
}

# Where in a row the numbers of other rows stand, by its word.
USED = {
    "steps": (), "call": (3,), "then": (1, 2), "again": (1,), "run": (1,), "around": (1, 3),
    "within": (1, 2), "times": (1,), "filled": (1, 2), "enter": (1,), "deeper": (1, 2), "moment": (1, 2),
}
