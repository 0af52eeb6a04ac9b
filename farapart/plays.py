"""Plays: runs and moments of a program, written as lists of steps."""

from farapart.forms import Form
from farapart.kinds import is_integer
from farapart.sights import sights
from farapart.statements import is_call


def is_run(program, name, thing):
    """Return whether thing, any value, is a whole run of a procedure."""
    return _place_behind(program, name, thing) == program[name].size - 1


def is_moment(program, thing):
    """Return whether thing, any value, is a moment of a run of the first procedure."""
    name = program.first
    steps = thing
    while _goes_in(steps):
        place = _place_behind(program, name, steps[:-1])
        way = _way_of_call(program[name], place, steps[-1])
        if way is None:
            return False
        name = way[2][1]
        steps = steps[-1][2]
    return _place_behind(program, name, steps) is not None


def steps_of(moment):
    """Return the number of the ways of a moment, with those within calls; a call is one itself."""
    total = 0
    left = [moment]
    while left:
        steps = left.pop()
        total += len(steps)
        left.extend([step[2] for step in steps if isinstance(step, tuple)])
    return total


def form_at(program, moment):
    """Return (name, place, form) of what a moment shows, the Form by the parameters of the first procedure."""
    name = program.first
    form = Form.begin(program[name])
    steps = moment
    while _goes_in(steps):
        _, form = _led_along(program, name, form, steps[:-1])
        statement = program[name].way(steps[-1][1])[2]
        name = statement[1]
        form = form.entered(statement, program[name])
        steps = steps[-1][2]
    place, form = _led_along(program, name, form, steps)
    return name, place, form


def played(program, moment, start):
    """Return (name, place, numbers) of what a moment shows with a start."""
    name, place, form = form_at(program, moment)
    return name, place, form.numbers(start)


def moments(program, most):
    """Yield each moment with at most so many ways once, those with fewer ways first."""
    first = program.first
    for many in range(most + 1):
        yield from _lists_from(program, first, 0, many, False)


def shown(program, most, start, name, place, x, y):
    """Return the greatest x - y that the moments with at most so many ways show at a place, or None."""
    found = []
    for form in sights(program, most, name, place):
        numbers = form.numbers(start)
        numbers[""] = 0
        found.append(numbers[x] - numbers[y])
    return max(found, default=None)


def _place_behind(program, name, thing):
    """Return the place to which whole steps lead from place 0, or None if thing, any value, is no list of such."""
    if not isinstance(thing, list):
        return None
    place = 0
    for step in thing:
        place = _place_after(program, name, place, step)
        if place is None:
            return None
    return place


def _place_after(program, name, place, step):
    """Return the place to which a whole step, any value, leads, or None if it is none from this place."""
    if _is_tuple_of(step, "call"):
        way = _way_of_call(program[name], place, step)
        whole = way is not None and is_run(program, way[2][1], step[2])
        return way[1] if whole else None
    way = _way_from(program[name], place, step)
    return way[1] if way is not None and not is_call(way[2]) else None


def _way_of_call(procedure, place, step):
    """Return the way of a step into or along a call from a place, or None if there is no such call."""
    way = _way_from(procedure, place, step[1])
    return way if way is not None and is_call(way[2]) else None


def _way_from(procedure, place, index):
    """Return the way with an index, any value, or None if there is none or it leads from another place."""
    if not is_integer(index) or not 0 <= index < len(procedure):
        return None
    way = procedure.way(index)
    return way if way[0] == place else None


def _is_tuple_of(step, word):
    if not isinstance(step, tuple) or len(step) != 3:
        return False
    return isinstance(step[0], str) and step[0] == word


def _goes_in(steps):
    """Return whether steps, any value, is a list whose last step may lead into a call."""
    return isinstance(steps, list) and len(steps) > 0 and _is_tuple_of(steps[-1], "in")


def _led_along(program, name, form, steps):
    """Return (place, form) behind whole steps from place 0, where form was."""
    procedure = program[name]
    place = 0
    plain = []
    for step in steps:
        if is_integer(step):
            _, place, statement = procedure.way(step)
            plain.append(statement)
        else:
            _, place, statement = procedure.way(step[1])
            callee = statement[1]
            _, run = _led_along(program, callee, Form.begin(program[callee]), step[2])
            form = form.along(plain).behind(statement, run)
            plain = []
    return place, form.along(plain)


def _lists_from(program, name, place, many, whole):
    """Yield each list of steps with just so many ways from a place: to the end, or to any moment."""
    procedure = program[name]
    if many == 0:
        if not whole or place == procedure.size - 1:
            yield []
        return
    left = many - 1
    for index in procedure.out(place):
        _, end, statement = procedure.way(index)
        if is_call(statement):
            yield from _lists_along(program, name, index, many, whole)
        else:
            for later in _lists_from(program, name, end, left, whole):
                yield [index, *later]


def _lists_along(program, name, index, many, whole):
    """Yield those of the lists of steps that begin with a call, or go into it."""
    _, end, statement = program[name].way(index)
    callee = statement[1]
    left = many - 1
    if not whole:
        for inner in _lists_from(program, callee, 0, left, False):
            yield [("in", index, inner)]
    for inside in range(many):
        outside = left - inside
        for run in _lists_from(program, callee, 0, inside, True):
            for later in _lists_from(program, name, end, outside, whole):
                yield [("call", index, _copied(run)), *later]


def _copied(run):
    """Return a run of which no list is shared, as the caller may change what it gets."""
    return [step if is_integer(step) else (step[0], step[1], _copied(step[2])) for step in run]
