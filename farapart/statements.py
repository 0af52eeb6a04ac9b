"""Statements: tuples that tell what a way does to the numbers."""

from farapart.checks import are_names, is_row
from farapart.errors import NoEntry
from farapart.kinds import is_integer, is_name, is_source

# Where in the tuple of a word its parts stand; the last two items of a part are a source and an integer.
PARTS = {"set": 1, "most": 2, "least": 2, "call": 2}


def is_statement(thing):
    """Return whether thing, any value, is a statement, of whatever names."""
    if not isinstance(thing, tuple) or len(thing) == 0 or not isinstance(thing[0], str):
        return False
    word = thing[0]
    if word == "skip":
        return len(thing) == 1
    if word == "set":
        return len(thing) == 2 and _are_settings(thing[1])
    if word == "most" or word == "least":
        return len(thing) == 3 and is_name(thing[1]) and _are_parts(thing[2]) and len(thing[2]) > 0
    if word == "call":
        return len(thing) == 4 and is_name(thing[1]) and _are_parts(thing[2]) and are_names(thing[3])
    return False


def frozen(statement):
    """Return a statement with tuples for lists."""
    return tuple([tuple(item) if is_row(item) else item for item in statement])


def is_call(statement):
    """Return whether a statement is a call."""
    return statement[0] == "call"


def sets(statement):
    """Return the ascending list of the names that a statement sets."""
    word = statement[0]
    if word == "skip":
        return []
    if word == "set":
        return sorted([part[0] for part in statement[1]])
    if word == "call":
        return sorted(statement[3])
    return [statement[1]]


def reads(statement):
    """Return the ascending list of the names whose numbers a statement reads."""
    return sorted({part[-2] for part in _parts(statement) if part[-2] != ""})


def numbers(statement):
    """Return the list of the integers of a statement, as they are written."""
    return [part[-1] for part in _parts(statement)]


def with_number(statement, at, number):
    """Return the frozen statement with another integer in the place of one."""
    known = numbers(statement)
    if not 0 <= at < len(known):
        raise NoEntry(at)
    return with_numbers(statement, known[:at] + [number] + known[at + 1:])


def with_numbers(statement, new):
    """Return the frozen statement with other integers, new being the list of all of them."""
    whole = frozen(statement)
    if whole[0] == "skip":
        return whole
    place = PARTS[whole[0]]
    parts = [part[:-1] + (number,) for part, number in zip(whole[place], new)]
    return whole[:place] + (tuple(parts),) + whole[place + 1:]


def with_names(statement, names):
    """Return the frozen statement with other names; names is a dict from all of its own to these."""
    word = statement[0]
    if word == "skip":
        return frozen(statement)
    new = {**names, "": ""}
    if word == "set":
        return (word, tuple([(new[x], new[y], c) for x, y, c in statement[1]]))
    parts = tuple([(new[y], c) for y, c in statement[2]])
    if word == "call":
        return (word, statement[1], parts, tuple([new[x] for x in statement[3]]))
    return (word, new[statement[1]], parts)


def with_callee(statement, names):
    """Return the frozen statement, of a call with another procedure; names is a dict from all to these."""
    if not is_call(statement):
        return frozen(statement)
    word, callee, arguments, results = frozen(statement)
    return (word, names[callee], arguments, results)


def _parts(statement):
    if statement[0] == "skip":
        return ()
    return tuple(statement[PARTS[statement[0]]])


def _are_settings(thing):
    if not is_row(thing) or not all([_is_setting(part) for part in thing]):
        return False
    return len({part[0] for part in thing}) == len(thing)


def _is_setting(thing):
    if not isinstance(thing, tuple) or len(thing) != 3:
        return False
    return is_name(thing[0]) and is_source(thing[1]) and is_integer(thing[2])


def _are_parts(thing):
    return is_row(thing) and all([_is_part(part) for part in thing])


def _is_part(thing):
    if not isinstance(thing, tuple) or len(thing) != 2:
        return False
    return is_source(thing[0]) and is_integer(thing[1])
