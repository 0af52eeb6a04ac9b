"""Values that several tests share."""

from farapart.procedures import Procedure
from farapart.programs import Program


def deep(levels=19):
    """A list in a list in a list .."""
    found = []
    for _ in range(levels):
        found = [found]
    return found


def junk():
    """Values of many kinds that are no names, kinds, lists, dicts, procedures or statements of use here."""
    return [
        None, True, False, 0, 1, -1, 10 ** 50, "", "A", "a1", "a b", "ninechars", "a\n", b"a", 3j,
        {1}, frozenset(), object(), object, len, range(3), deep(), ValueError("a"), [None], (None,), {1: 2},
        [[]], ("a",), ["a", "a"], ("skip", 1), {"a": None}, {None: "plain"}, ["x"] * 9999,
    ]


def loop_program():
    """The writer and the reader of the document: w goes up, then r."""
    ways = [(0, 1, ("set", [("w", "w", 1)])), (1, 0, ("set", [("r", "r", 1)]))]
    return Program({"main": Procedure({"r": "plain", "w": "plain"}, ["w", "r"], [], 2, ways)}, "main")


def down_program():
    """A procedure that calls itself with one more each time, and its caller, as in the document."""
    ways = [(0, 1, ("call", "deep", [("n", 1)], ["m"])), (0, 1, ("set", [("m", "n", 0)]))]
    below = Procedure({"m": "plain", "n": "plain"}, ["n"], ["m"], 2, ways)
    ways = [(0, 1, ("call", "deep", [("a", 3)], ["b"]))]
    return Program({"deep": below, "main": Procedure({"a": "plain", "b": "plain"}, ["a"], [], 2, ways)}, "main")


def turns_program():
    """Two procedures that call one another, with names of all kinds and a way from an end."""
    kinds = {"p": "plain", "h": "high", "l": "low", "q": "plain"}
    even = [
        (0, 1, ("most", "h", [("p", 2), ("h", -1), ("", 0)])),
        (1, 2, ("call", "odd", [("h", 1), ("p", 0)], ["h", "q"])),
        (0, 2, ("set", [("p", "q", 1), ("q", "p", -1), ("l", "", 4)])),
        (2, 0, ("skip",)),
        (1, 1, ("least", "l", [("l", 1), ("q", -3)])),
    ]
    odd = [
        (0, 1, ("call", "even", [("b", 0), ("b", 5)], ["b"])),
        (0, 1, ("set", [("a", "b", 3)])),
        (1, 1, ("most", "a", [("a", 1), ("b", 0)])),
    ]
    return Program({
        "even": Procedure(kinds, ["p", "q"], ["q"], 3, even),
        "odd": Procedure({"a": "high", "b": "plain"}, ["a", "b"], ["a", "b"], 2, odd),
    }, "even")
