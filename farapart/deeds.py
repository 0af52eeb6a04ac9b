"""Deeds: tuples that tell what is to be changed of a program, of facts or of claims."""

from farapart.errors import ApartError, Refused
from farapart.kinds import is_integer, is_name, is_source
from farapart.spots import check_spot
from farapart.statements import frozen, is_statement

MOST_WAYS = 8
MOST_CLAIMS = 8

# The parts of claims, and of deeds by their words, but for the statement of a way and the claim of a claim.
CLAIM = ("name", "count", "source", "source", "integer")
PARTS = {
    "way": ("name", "count", "count"), "out": ("name", "count"), "number": ("name", "count", "count", "integer"),
    "fact": ("source", "source", "integer"), "claim": (), "drop": ("count",),
}


def is_deed(thing):
    """Return whether thing, any value, is a deed."""
    if not isinstance(thing, tuple) or len(thing) == 0 or not isinstance(thing[0], str) or thing[0] not in PARTS:
        return False
    if thing[0] == "way":
        return len(thing) == 5 and _are(thing[1:4], PARTS["way"]) and is_statement(thing[4])
    if thing[0] == "claim":
        return len(thing) == 2 and isinstance(thing[1], tuple) and _are(thing[1], CLAIM)
    return _are(thing[1:], PARTS[thing[0]])


def frozen_deed(deed):
    """Return a deed whose statement has tuples for lists."""
    return deed[:4] + (frozen(deed[4]),) if deed[0] == "way" else deed


def after_deed(state, deed):
    """Return the state (program, facts, claims) behind a deed, claims being a tuple; Refused if it is not to be."""
    try:
        return _after(state, deed)
    except ApartError:
        raise Refused(deed)


def _are(parts, wanted):
    return len(parts) == len(wanted) and all([_is_one(part, word) for part, word in zip(parts, wanted)])


def _is_one(thing, word):
    """Return whether thing, any value, is what a word says."""
    if word == "name":
        return is_name(thing)
    if word == "source":
        return is_source(thing)
    return is_integer(thing) and (word == "integer" or thing >= 0)


def _after(state, deed):
    program, facts, claims = state
    if deed[0] == "fact":
        _, x, y, c = deed
        return (program, facts.with_fact(x, y, c), claims)
    if deed[0] == "claim":
        check_spot(program, deed[1][:4])
        _check_most(deed, len(claims) + 1, MOST_CLAIMS)
        return (program, facts, claims + (deed[1],))
    if deed[0] == "drop":
        at = deed[1]
        _check_most(deed, at + 1, len(claims))
        return (program, facts, claims[:at] + claims[at + 1:])
    return (_program_after(program, deed), facts, claims)


def _program_after(program, deed):
    name = deed[1]
    if deed[0] == "way":
        changed = program[name].with_way(deed[2:])
    elif deed[0] == "out":
        changed = program[name].without_way(deed[2])
    else:
        _, _, index, at, number = deed
        changed = program[name].with_number(index, at, number)
    _check_most(deed, len(changed), MOST_WAYS)
    return program.with_procedure(name, changed)


def _check_most(deed, many, most):
    if many > most:
        raise Refused(deed)
