"""Promise [4]: what a program, facts and a spot raise that do not go together, ahead of all other errors."""

import unittest

from farapart.alike import idle_ways, parted, same_far
from farapart.beyond import beyond, growth
from farapart.buffers import lead, ring_size
from farapart.claims import broken, counter, holds
from farapart.errors import Endless, Never, NoName, NoPlace, NoProc, NotFar, Unlike
from farapart.facts import Facts
from farapart.far import constant, far, far_in
from farapart.procedures import Procedure
from farapart.programs import Program
from farapart.reasons import is_reason, reason, way_to
from farapart.slack import slack
from farapart.weakest import needed, weakest

KINDS = {"p": "plain", "h": "high", "l": "low", "q": "plain"}
# Place 2 is not come to, at place 1 q is endless, the procedure unused is never called.
MAIN = Procedure(KINDS, ["p", "h"], ["l"], 3, [(0, 1, ("skip",)), (1, 1, ("set", [("q", "q", 1)]))])
PROGRAM = Program({"main": MAIN, "unused": Procedure(KINDS, [], [], 1, [])}, "main")
FACTS = Facts(["h", "p"], [("p", "", 3)])
OTHERS = [Facts(["p"]), Facts([]), Facts(["p", "q"]), Facts(["h", "l", "p"])]

CALLS = {
    "far": far,
    "far_in": lambda program, facts, spot: far_in(program, facts, spot[0], spot[2], spot[3]),
    "constant": constant,
    "reason": reason,
    "is_reason": lambda program, facts, spot: is_reason(program, facts, spot, 0, None),
    "beyond": lambda program, facts, spot: beyond(program, facts, spot, 0),
    "growth": growth,
    "holds": lambda program, facts, spot: holds(program, facts, spot + (0,)),
    "counter": lambda program, facts, spot: counter(program, facts, spot + (0,)),
    "lead": lambda program, facts, spot: lead(program, facts, spot[0], spot[2], spot[3]),
}

# Those that take several spots, each with something wrong of its own that comes behind.
LISTS = {
    "broken": lambda program, facts, spots: broken(program, facts, [spot + (0,) for spot in spots]),
    "needed": lambda program, facts, spots: needed(program, facts, [("z", "z", 0)], [spot + (0,) for spot in spots]),
    "slack": lambda program, facts, spots: slack(program, facts, [spot + (0,) for spot in spots], "none", 9, 9),
    "same_far": lambda program, facts, spots: same_far(program, PROGRAM, facts, spots),
    "parted": lambda program, facts, spots: parted(program, PROGRAM, facts, spots),
    "idle_ways": idle_ways,
    "ring_size": lambda program, facts, spots: ring_size(program, facts, [("main", 0, "h", "l")] + spots),
}

WRONG = [
    (("x", 9, "z", "w"), NoProc, "name", "x"), (("", -1, "p", "p"), NoProc, "name", ""),
    (("main", 3, "z", "w"), NoPlace, "place", 3), (("main", -1, "z", "w"), NoPlace, "place", -1),
    (("unused", 1, "p", "p"), NoPlace, "place", 1), (("main", 10 ** 40, "l", "h"), NoPlace, "place", 10 ** 40),
    (("main", 2, "z", "w"), NoName, "name", "z"), (("main", 2, "l", "w"), NoName, "name", "w"),
    (("main", 2, "*", "w"), NoName, "name", "*"),
    (("unused", 0, "p", "*"), NoName, "name", "*"), (("main", 1, "l", "h"), NotFar, "name", "l"),
    (("main", 2, "l", ""), NotFar, "name", "l"),
    (("main", 2, "p", "h"), NotFar, "name", "h"), (("unused", 0, "", "h"), NotFar, "name", "h"),
    (("main", 0, "h", "h"), NotFar, "name", "h"),
]


class SpotsTest(unittest.TestCase):
    def raises(self, error, call, *given):
        with self.assertRaises(error) as caught:
            call(*given)
        self.assertIs(type(caught.exception), error)
        return caught.exception

    def test_unlike_ahead_of_all(self):
        for call in CALLS.values():
            for facts in OTHERS:
                for spot in [spot for spot, _, _, _ in WRONG] + [("main", 0, "p", "p"), ("main", 2, "p", "p")]:
                    self.raises(Unlike, call, PROGRAM, facts, spot)

    def test_each_in_its_order(self):
        for word, call in CALLS.items():
            for spot, error, field, thing in WRONG:
                if word in ("far_in", "lead") and error is NoPlace:
                    continue
                found = self.raises(error, call, PROGRAM, FACTS, spot)
                self.assertEqual(getattr(found, field), thing, (word, spot))

    def test_several_spots(self):
        right = [("main", 1, "q", "p"), ("unused", 0, "", "l")]
        for word, call in LISTS.items():
            for at, (spot, error, field, thing) in enumerate(WRONG):
                behind = [WRONG[(at + more) % len(WRONG)][0] for more in (1, 5)]
                for spots in ([spot], right + [spot], right + [spot] + right, [spot] + behind, right + [spot] + behind):
                    self.assertEqual(getattr(self.raises(error, call, PROGRAM, FACTS, spots), field), thing, (word, spots))
                    for facts in OTHERS:
                        self.raises(Unlike, call, PROGRAM, facts, spots)
                    if word == "broken":
                        found = self.raises(error, weakest, PROGRAM, [some + (0,) for some in spots])
                        self.assertEqual(getattr(found, field), thing, spots)
            for facts in OTHERS:
                self.raises(Unlike, call, PROGRAM, facts, [])

    def test_facts_are_asked_of_the_parameters_in_any_order(self):
        for facts in (Facts(["p", "h"]), Facts(("h", "p"), [("p", "h", 1)])):
            self.assertEqual(far(PROGRAM, facts, ("main", 0, "p", "p")), 0)

    def test_far_in_asks_of_place_0(self):
        self.assertEqual(self.raises(NoName, far_in, PROGRAM, FACTS, "unused", "z", "h").name, "z")
        self.assertEqual(self.raises(NotFar, far_in, PROGRAM, FACTS, "unused", "l", "h").name, "l")
        self.assertIsNone(far_in(PROGRAM, FACTS, "unused", "h", "l"))

    def test_own_errors_come_behind(self):
        self.assertEqual(self.raises(NotFar, constant, PROGRAM, FACTS, ("main", 2, "h", "l")).name, "h")
        self.assertEqual(self.raises(NotFar, constant, PROGRAM, FACTS, ("main", 2, "p", "l")).name, "l")
        self.assertEqual(self.raises(NotFar, constant, PROGRAM, FACTS, ("main", 2, "h", "h")).name, "h")
        for word in ("reason", "beyond", "growth"):
            self.raises(Never, CALLS[word], PROGRAM, FACTS, ("main", 2, "q", "p"))
            self.raises(Never, CALLS[word], PROGRAM, FACTS, ("unused", 0, "q", "p"))
        self.raises(Endless, reason, PROGRAM, FACTS, ("main", 1, "q", ""))
        self.assertEqual(self.raises(NoProc, way_to, PROGRAM, "x", 9).name, "x")
        self.assertEqual(self.raises(NoPlace, way_to, PROGRAM, "main", 3).place, 3)
        self.assertEqual(self.raises(NoPlace, way_to, PROGRAM, "unused", -1).place, -1)


if __name__ == "__main__":
    unittest.main()
