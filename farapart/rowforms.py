"""Row forms: what the rows of roads tell of numbers, each by the rows that it uses.

Of a part, a run, an entry and a moment it is a Form, of a context a Context.
"""

from farapart.contexts import around
from farapart.forms import Form
from farapart.sums import powered


def worked_out(program, row, heads, forms):
    """Return the Form or the Context of a row; forms has those of the rows that it uses."""
    told = TELLERS[row[0]]
    return told(program, row, heads, forms)


def _steps(program, row, heads, forms):
    procedure = program[row[1]]
    form = Form.itself(procedure)
    for index in row[3]:
        form = form.after(procedure.way(index)[2])
    return form


def _along_call(program, row, heads, forms):
    procedure = program[row[1]]
    return Form.itself(procedure).behind(procedure.way(row[2])[2], forms[row[3]])


def _then(program, row, heads, forms):
    return forms[row[2]].led(forms[row[1]])


def _again(program, row, heads, forms):
    return powered(forms[row[1]], row[2], _behind)


def _run(program, row, heads, forms):
    return forms[row[1]].led(Form.begin(program[heads[row[1]].owner]))


def _around(program, row, heads, forms):
    procedure = program[heads[row[1]].owner]
    statement = procedure.way(row[2])[2]
    ahead = forms[row[1]].led(Form.begin(procedure))
    return around(procedure, ahead, statement, program[statement[1]], forms[row[3]])


def _within(program, row, heads, forms):
    return forms[row[1]].within(forms[row[2]])


def _times(program, row, heads, forms):
    if heads[row[1]].shape == "context":
        return powered(forms[row[1]], row[2], _inside)
    return powered(forms[row[1]], row[2], _behind)


def _filled(program, row, heads, forms):
    return forms[row[1]].filled(forms[row[2]])


def _enter(program, row, heads, forms):
    procedure = program[heads[row[1]].owner]
    statement = procedure.way(row[2])[2]
    return forms[row[1]].led(Form.begin(procedure)).entered(statement, program[statement[1]])


def _moment(program, row, heads, forms):
    ahead = Form.begin(program[heads[row[2]].owner]) if row[1] is None else forms[row[1]]
    return forms[row[2]].led(ahead)


def _behind(one, other):
    return other.led(one)


def _inside(one, other):
    return one.within(other)


# What works out the Form or the Context of a row, by its word.
TELLERS = {
    "steps": _steps, "call": _along_call, "then": _then, "again": _again, "run": _run, "around": _around,
    "within": _within, "times": _times, "filled": _filled, "enter": _enter, "deeper": _then, "moment": _moment,
}
