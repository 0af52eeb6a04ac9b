"""Sights: the Forms that short moments show, each told once though many moments may show it.

A sight is a tuple (name, place, form). The sights of a list of levels are sorted by the
least number of ways that leads to them: those of level 0 need no way, and so on.
"""

from farapart.forms import Form
from farapart.statements import is_call


def sights(program, most, name, place):
    """Return the list of the Forms that moments with at most so many ways show at a place, each once.

    They are told by the parameters of the first procedure.
    """
    runs = _runs(program, most)
    levels = [[_beginning(program, program.first)]]
    for _ in range(most):
        levels.append(_next_level(program, levels, runs, True))
    return [form for level in levels for other, at, form in level if other == name and at == place]


def _beginning(program, name):
    return (name, 0, Form.begin(program[name]))


def _runs(program, most):
    """Return, by procedure and number of ways less than most, the lists of the Forms of whole runs."""
    levels = {name: [[_beginning(program, name)]] for name in program.names()}
    runs = {}
    for _ in range(most):
        runs = {name: [_ended(program[name], level) for level in levels[name]] for name in program.names()}
        for name in program.names():
            levels[name].append(_next_level(program, levels[name], runs, False))
    return runs


def _ended(procedure, level):
    return [form for _, place, form in level if place == procedure.size - 1]


def _next_level(program, levels, runs, enters):
    """Return the sights that one way more than those of levels leads to, less those that need fewer."""
    known = {_key(sight): True for level in levels for sight in level}
    fresh = []
    for sight in _all_behind(program, levels, runs, enters):
        key = _key(sight)
        if key not in known:
            known[key] = True
            fresh.append(sight)
    return fresh


def _all_behind(program, levels, runs, enters):
    """Return the list of all sights with one way more than levels; with enters, those within calls, too."""
    found = []
    for ahead, level in enumerate(levels):
        inside = len(levels) - 1 - ahead
        for name, place, form in level:
            for index in program[name].out(place):
                found.extend(_along(program, name, form, index, inside, runs, enters))
    return found


def _along(program, name, form, index, inside, runs, enters):
    """Return the list of the sights behind a way, or within it, with just so many ways within it."""
    _, end, statement = program[name].way(index)
    if not is_call(statement):
        return [(name, end, form.after(statement))] if inside == 0 else []
    callee = statement[1]
    found = [(name, end, form.behind(statement, run)) for run in runs[callee][inside]]
    if enters and inside == 0:
        found.append((callee, 0, form.entered(statement, program[callee])))
    return found


def _key(sight):
    name, place, form = sight
    told = [(x, tuple([(source, number) for source, number in form[x].items()])) for x in form.names()]
    return (name, place, tuple(told))
