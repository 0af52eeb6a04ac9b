"""Promise [83] and the guarantees [10] and [11]: buffers."""

import copy
import random
import unittest

from oracle import all_spots, renamed_all, renamed_spot, wide_facts, wide_program
from samples import down_program, loop_program, turns_program

from farapart.buffers import lead, ring_size
from farapart.errors import NoName, NoPlace, NoProc, NotFar, Unlike
from farapart.facts import Facts
from farapart.far import far, far_in
from farapart.procedures import Procedure
from farapart.programs import Program

FACTS = Facts(["r", "w"], [("w", "r", 2), ("r", "w", 0), ("r", "", 5)])
BIG = 10 ** 40 - 7
KINDS = {"a": "plain", "b": "plain", "h": "high", "l": "low"}


def one(kinds, params, size, *ways):
    return Program({"main": Procedure(kinds, params, [], size, ways)}, "main")


def plain_spots(program):
    return [(name, place, x, y) for name, place, x, y in all_spots(program)
            if {program[name].kind(x), program[name].kind(y)} == {"plain"}]


def size_by_far(program, facts, spots):
    found = [0]
    for name, place, x, y in spots:
        above, below = far(program, facts, (name, place, x, y)), far(program, facts, (name, place, y, x))
        if above is not None and not (isinstance(above, int) and isinstance(below, int) and below <= 0):
            return None
        found += [] if above is None else [above]
    return max(found)


class BuffersTest(unittest.TestCase):
    def raises(self, error, call, *given):
        with self.assertRaises(error) as caught:
            call(*given)
        self.assertIs(type(caught.exception), error)
        return caught.exception

    def test_the_example(self):
        loop = loop_program()
        self.assertEqual([ring_size(loop, FACTS, [("main", 0, "w", "r"), ("main", 1, "w", "r")])], [3])

    def test_ring_size(self):
        loop = loop_program()
        ahead, behind = ("main", 0, "w", "r"), ("main", 1, "w", "r")
        for spots, size in [([], 0), ((), 0), ([ahead], 2), ([behind], 3), ([behind, ahead, behind], 3),
                            ([("main", 0, "w", "w"), ("main", 1, "", "")], 0), ([("main", 0, "r", "w")], None),
                            ([ahead, ("main", 1, "r", "w")], None), ([("main", 0, "w", "")], None), ([("main", 0, "", "r")], None)]:
            self.assertEqual(ring_size(loop, FACTS, spots), size, spots)
        # A reader that is never more than one behind a writer, which may be just where it is, and one that may be ahead.
        for facts, size in [([("w", "r", 0), ("r", "w", 0)], 1), ([("w", "r", 7), ("r", "w", 0)], 8), ([("w", "r", 7), ("r", "w", 1)], None),
                            ([("w", "r", 7)], None), ([("r", "w", 0)], None), ([("w", "r", BIG), ("r", "w", -BIG)], BIG + 1),
                            ([("w", "r", -2)], None), ([("w", "r", -1), ("r", "w", 1)], None)]:
            self.assertEqual(ring_size(loop, Facts(["r", "w"], facts), [ahead, behind]), size, facts)
        self.assertEqual(ring_size(loop, Facts(["r", "w"], [("w", "r", -1), ("r", "w", 1)]), [behind]), 0)

    def test_spots_that_are_not_come_to(self):
        program = Program({"main": Procedure(KINDS, ["a"], [], 3, [(0, 1, ("set", [("a", "a", 1)]))]),
                           "f": Procedure(KINDS, [], [], 2, [(0, 1, ("skip",))])}, "main")
        facts = Facts(["a"], [("a", "", 4), ("", "a", 0)])
        for spots, size in [([("main", 2, "b", "a")], 0), ([("main", 2, "a", ""), ("f", 1, "a", "b"), ("f", 0, "", "a")], 0),
                            ([("main", 1, "a", ""), ("main", 2, "", "a")], 5), ([("main", 1, "", "a"), ("main", 2, "", "a")], None)]:
            self.assertEqual(ring_size(program, facts, spots), size, spots)
        self.assertIsNone(lead(program, facts, "f", "a", "b"))
        self.assertIsNone(lead(program, facts, "f", "", ""))
        self.assertEqual(lead(program, facts, "main", "a", ""), (0, 5))

    def test_random_programs(self):
        rng = random.Random(830)
        seen = {None: 0, 0: 0, "more": 0, "int": 0, "endless": 0}
        for _ in range(120):
            program = wide_program(rng)
            facts = wide_facts(rng, program)
            spots = plain_spots(program)
            right = [spot for spot in spots if size_by_far(program, facts, [spot]) is not None]
            for some in (rng.choices(spots, k=2), rng.choices(right, k=3)):
                size = ring_size(program, facts, some)
                self.assertEqual(size, size_by_far(program, facts, some))
                seen[size if size in seen else "more"] += 1
            name, _, x, y = rng.choice(spots)
            told = lead(program, facts, name, x, y)
            above, below = far_in(program, facts, name, x, y), far_in(program, facts, name, y, x)
            if above is None:
                self.assertIsNone(told)
            else:
                self.assertEqual(told, (below if below == "endless" else -below, above))
                seen["endless" if "endless" in told else "int"] += 1
        self.assertTrue(min(seen.values()) > 10, seen)

    def test_lead(self):
        loop, down = loop_program(), down_program()
        self.assertEqual([lead(loop, FACTS, "main", "w", "r"), lead(loop, FACTS, "main", "r", "w"), lead(loop, FACTS, "main", "w", "w"),
                          lead(loop, FACTS, "main", "", "")], [(0, 3), (-3, 0), (0, 0), (0, 0)])
        self.assertEqual([lead(loop, FACTS, "main", "w", ""), lead(down, Facts(["a"], [("", "a", 0)]), "deep", "n", ""),
                          lead(down, Facts(["a"], [("", "a", 0)]), "deep", "", "n"), lead(down, Facts(["a"]), "deep", "n", "m")],
                         [("endless", "endless"), (3, "endless"), ("endless", -3), ("endless", "endless")])
        program = one(KINDS, ["a"], 3, (0, 1, ("set", [("b", "a", -BIG)])), (1, 2, ("set", [("b", "a", 2)])))
        self.assertEqual([lead(program, Facts(["a"]), "main", "b", "a"), lead(program, Facts(["a"], [("a", "", 0)]), "main", "b", "")],
                         [("endless", "endless"), ("endless", 2)])
        exact = Facts(["a"], [("a", "", 1), ("", "a", -1)])
        self.assertEqual([lead(program, exact, "main", "b", "a"), lead(program, exact, "main", "a", "b")], [(-BIG, 2), (-2, BIG)])

    def test_errors_of_ring_size(self):
        program, facts = one(KINDS, ["a"], 2), Facts(["a"])
        right, high, low = ("main", 0, "a", "b"), ("main", 1, "h", "b"), ("main", 0, "a", "l")
        for spots, error, field, thing in [
                ([high], NotFar, "name", "h"), ([low], NotFar, "name", "l"), ([("main", 1, "h", "l")], NotFar, "name", "h"),
                ([right, low, high], NotFar, "name", "l"), ([high, low], NotFar, "name", "h"), ([right, right, ("main", 1, "", "l")], NotFar, "name", "l"),
                # What [4] tells comes ahead of it, for each of the spots.
                ([high, ("main", 0, "a", "h")], NotFar, "name", "h"), ([high, ("main", 0, "l", "a")], NotFar, "name", "l"),
                ([low, ("main", 0, "a", "z")], NoName, "name", "z"), ([low, ("main", 2, "z", "z")], NoPlace, "place", 2),
                ([low, ("x", 2, "z", "z")], NoProc, "name", "x"), ([("main", 0, "z", "h"), ("x", 0, "", "")], NoName, "name", "z")]:
            self.assertEqual(getattr(self.raises(error, ring_size, program, facts, spots), field), thing, spots)
            self.raises(Unlike, ring_size, program, Facts(["b"]), spots)
        self.raises(Unlike, ring_size, program, Facts([]), [])

    def test_errors_of_lead(self):
        program, facts = one(KINDS, ["a"], 2), Facts(["a"])
        for given, error, thing in [(("x", "z", "z"), NoProc, "x"), (("main", "z", "h"), NoName, "z"), (("main", "l", "z"), NoName, "z"),
                                    (("main", "l", "h"), NotFar, "l"), (("main", "h", "h"), NotFar, "h"), (("main", "h", "l"), NotFar, "h"),
                                    (("main", "a", "l"), NotFar, "l"), (("main", "", "h"), NotFar, "h"), (("main", "h", ""), NotFar, "h")]:
            self.assertEqual(self.raises(error, lead, program, facts, *given).name, thing, given)
            self.raises(Unlike, lead, program, Facts(["a", "b"]), *given)
        unused = Program({"main": program["main"], "f": program["main"]}, "main")
        self.assertEqual(self.raises(NotFar, lead, unused, facts, "f", "a", "l").name, "l")

    def test_more_and_less(self):
        """A way more or a fact less makes no ring of cells smaller."""
        rng = random.Random(831)
        for _ in range(40):
            program = wide_program(rng)
            facts = wide_facts(rng, program)
            spots = [spot for spot in plain_spots(program) if ring_size(program, facts, [spot]) is not None]
            name = rng.choice(program.names())
            size = program[name].size
            more = program.with_procedure(name, program[name].with_way((rng.randrange(size), rng.randrange(size), ("skip",))))
            found = ring_size(program, facts, spots)
            for other in (ring_size(more, facts, spots), ring_size(program, Facts(facts.names(), facts.bounds()[1:]), spots)):
                self.assertTrue(other is None or other >= found)

    def test_renamed(self):
        rng = random.Random(832)
        for _ in range(20):
            program = wide_program(rng)
            facts = wide_facts(rng, program)
            other, others, within, names = renamed_all(program, facts, rng)
            for spot in plain_spots(program):
                name, place, x, y = renamed_spot(spot, within, names)
                self.assertEqual(ring_size(program, facts, [spot]), ring_size(other, others, [(name, place, x, y)]))
                self.assertEqual(lead(program, facts, spot[0], *spot[2:]), lead(other, others, name, x, y))

    def test_by_turns_and_twice_and_what_is_handed_in(self):
        turns, loop = turns_program(), loop_program()
        bound, tight = Facts(["p", "q"], [("p", "q", 1), ("q", "p", 2)]), Facts(["p", "q"], [("p", "q", 4), ("q", "p", 0)])
        spots, others = [("even", 0, "p", "q")], [("main", 0, "w", "r"), ("main", 1, "w", "r")]
        kept = copy.deepcopy([spots, others])
        for _ in range(2):
            self.assertEqual([ring_size(turns, bound, spots), ring_size(turns, tight, spots), ring_size(loop, FACTS, others)],
                             [size_by_far(turns_program(), bound, spots), size_by_far(turns_program(), tight, spots), 3])
            self.assertEqual([lead(turns, bound, "odd", "b", ""), lead(loop, FACTS, "main", "w", "r")], [("endless", "endless"), (0, 3)])
        self.assertEqual([spots, others], kept)
        self.assertEqual([turns, loop], [turns_program(), loop_program()])


if __name__ == "__main__":
    unittest.main()
