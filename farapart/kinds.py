"""Integers, names, sources and kinds: the plain values of a program."""

LETTERS = "abcdefghijklmnopqrstuvwxyz"
LONGEST_NAME = 8
KINDS = ("plain", "high", "low")


def is_integer(thing):
    """Return whether thing, any value, is an integer; True and False are none."""
    return isinstance(thing, int) and not isinstance(thing, bool)


def is_name(thing):
    """Return whether thing, any value, is one to eight lowercase letters."""
    if not isinstance(thing, str) or not 1 <= len(thing) <= LONGEST_NAME:
        return False
    return all([letter in LETTERS for letter in thing])


def is_source(thing):
    """Return whether thing, any value, is a name or the empty string."""
    return is_name(thing) or (isinstance(thing, str) and len(thing) == 0)


def is_kind(thing):
    """Return whether thing, any value, is the word of a kind."""
    return isinstance(thing, str) and thing in KINDS


def fits(part, kind):
    """Return whether a source of the kind part may be a part of a name of the kind kind."""
    return part == "plain" or part == kind
