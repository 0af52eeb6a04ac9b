"""Promise [61] and the guarantees [5], [10] and [11]: far."""

import copy
import itertools
import random
import unittest

from oracle import all_spots, difference, greater, wide_facts, wide_program
from samples import down_program, loop_program, turns_program

from farapart.beyond import beyond
from farapart.errors import NotFar
from farapart.facts import Facts
from farapart.far import constant, far, far_in, known
from farapart.outer import Outer
from farapart.plays import moments, played
from farapart.procedures import Procedure
from farapart.programs import Program
from farapart.reasons import reason

FACTS = Facts(["r", "w"], [("w", "r", 2), ("r", "w", 0), ("r", "", 5)])


def one(kinds, params, size, *ways):
    return Program({"main": Procedure(kinds, params, [], size, ways)}, "main")


def starts_of(facts, width=4):
    """All starts with small numbers that keep facts."""
    for numbers in itertools.product(range(-width, width + 1), repeat=len(facts.names())):
        start = dict(zip(facts.names(), numbers))
        if facts.keeps(start):
            yield start


class FarTest(unittest.TestCase):
    def test_the_example(self):
        loop, down, anything = loop_program(), down_program(), Facts(["a"])
        self.assertEqual([far(loop, FACTS, ("main", 0, "w", "r")), far(loop, FACTS, ("main", 1, "w", "r")),
                          far(loop, FACTS, ("main", 1, "r", "w"))], [2, 3, -1])
        self.assertEqual([far(down, anything, ("main", 1, "b", "a")), far(down, anything, ("main", 1, "a", "b")),
                          constant(down, anything, ("deep", 0, "m", ""))], ["endless", -3, 0])
        self.assertEqual(known(FACTS, Outer(loop).rows(), ("main", 1, "w", "r")), 3)

    def test_against_moments_of_few_ways_from_small_starts(self):
        rng = random.Random(610)
        same = 0
        for _ in range(60):
            program = wide_program(rng, low=-3, high=3)
            facts = wide_facts(rng, program)
            best = {}
            for moment in itertools.islice(moments(program, 3), 60):
                for start in starts_of(facts):
                    name, place, numbers = played(program, moment, start)
                    numbers[""] = 0
                    for x in program[name].uppers():
                        for y in program[name].lowers():
                            spot, found = (name, place, x, y), numbers[x] - numbers[y]
                            best[spot] = max(best.get(spot, found), found)
            for spot, found in best.items():
                told = far(program, facts, spot)
                self.assertIsNotNone(told)
                self.assertFalse(greater(found, told), spot)
                same += found == told
        self.assertTrue(same > 500, same)

    def test_shown_and_not_exceeded(self):
        """Some run shows just what is told, or more than any number; tables tell that none shows more, see [6]."""
        rng = random.Random(611)
        seen = {"endless": 0, None: 0, "integer": 0}
        for _ in range(60):
            program = wide_program(rng)
            facts = wide_facts(rng, program)
            for spot in rng.sample(all_spots(program), 8) if len(all_spots(program)) > 8 else all_spots(program):
                told = far(program, facts, spot)
                self.assertEqual(told, known(facts, Outer(program).rows(), spot))
                seen[told if told in seen else "integer"] += 1
                if told == "endless":
                    for number in (-10 ** 40, 0, 10 ** 40):
                        rows, start = beyond(program, facts, spot, number)
                        self.assertTrue(facts.keeps(start) and difference(program, spot, rows, start) > number)
                elif told is not None:
                    rows, start = reason(program, facts, spot)
                    self.assertTrue(facts.keeps(start))
                    self.assertEqual(difference(program, spot, rows, start), told)
                else:
                    self.assertIs(Outer(program).comes(*spot[:2]), False)
        self.assertTrue(min(seen.values()) > 20, seen)

    def test_each_way_to_be_endless(self):
        kinds = {"a": "plain", "b": "plain", "h": "high", "l": "low"}
        still = one(kinds, ["a", "b"], 1)
        spot = ("main", 0, "a", "b")
        for facts, value in [([], "endless"), ([("a", "", 3)], "endless"), ([("a", "", 3), ("", "b", 2)], 5),
                             ([("a", "b", -7)], -7),
                             ([("b", "a", 1)], "endless")]:
            self.assertEqual(far(still, Facts(["a", "b"], facts), spot), value)
        for value, way in [("endless", (0, 0, ("set", [("a", "a", 1)]))), (0, (0, 0, ("set", [("a", "a", -1)]))),
                           ("endless", (0, 0, ("call", "main", [("a", 1), ("b", 0)], []))),
                           (0, (0, 0, ("call", "main", [("b", 0), ("b", 1)], [])))]:
            self.assertEqual(far(one(kinds, ["a", "b"], 1, way), Facts(["a", "b"], [("a", "b", 0)]), spot), value)
        turned = Procedure({"a": "plain", "b": "plain"}, ["a", "b"], ["a"], 2, [
            (0, 1, ("call", "main", [("a", 1), ("b", 0)], ["a"])), (0, 1, ("skip",))])
        self.assertEqual(far(Program({"main": turned}, "main"), Facts(["a", "b"], [("a", "b", 0)]),
                             ("main", 1, "a", "b")), "endless")
        self.assertIsNone(far(one(kinds, ["a", "b"], 2), Facts(["a", "b"]), ("main", 1, "a", "b")))

    def test_sources_and_kinds(self):
        kinds = {"h": "high", "l": "low", "p": "plain"}
        program = one(kinds, ["h", "l"], 2, (0, 1, ("most", "h", [("h", 1), ("p", 5)])),
                      (0, 1, ("least", "l", [("l", 2), ("", 3)])))
        facts = Facts(["h", "l"], [("h", "", 9), ("", "l", 4), ("h", "l", 10)])
        for spot, value in [(("main", 0, "h", "l"), 10), (("main", 1, "h", "l"), 11), (("main", 1, "h", ""), 10),
                            (("main", 1, "", "l"), 4),
                            (("main", 1, "", ""), 0), (("main", 1, "h", "p"), 10), (("main", 1, "p", "l"), 4),
                            (("main", 0, "", "l"), 4),
                            (("main", 0, "p", "p"), 0), (("main", 0, "p", ""), 0)]:
            self.assertEqual(far(program, facts, spot), value, spot)

    def test_far_in(self):
        loop, down, anything = loop_program(), down_program(), Facts(["a"])
        self.assertEqual([far_in(loop, FACTS, "main", "w", "r"), far_in(loop, FACTS, "main", "r", "w"),
                          far_in(loop, FACTS, "main", "w", "w"),
                          far_in(loop, FACTS, "main", "", "r"), far_in(down, anything, "main", "b", "a"),
                          far_in(down, anything, "deep", "m", "n"),
                          far_in(down, anything, "deep", "", "n")], [3, 0, 0, "endless", "endless", "endless",
                                                                     "endless"])
        self.assertEqual(far_in(down, Facts(["a"], [("", "a", 0)]), "deep", "", "n"), -3)
        unused = Procedure({"x": "plain"}, [], [], 4, [(0, 1, ("skip",))])
        program = Program({"main": Procedure({}, [], [], 1, []), "f": unused}, "main")
        self.assertIsNone(far_in(program, Facts([]), "f", "x", ""))
        rng = random.Random(612)
        for _ in range(40):
            program = wide_program(rng)
            facts = wide_facts(rng, program)
            for name in program.names():
                x, y = rng.choice(program[name].uppers()), rng.choice(program[name].lowers())
                found = [far(program, facts, (name, place, x, y)) for place in range(program[name].size)]
                found = [value for value in found if value is not None]
                best = None if not found else "endless" if "endless" in found else max(found)
                self.assertEqual(far_in(program, facts, name, x, y), best)

    def test_constant(self):
        loop = loop_program()
        even = Facts(["r", "w"], [("w", "r", 2), ("r", "w", -2)])
        self.assertEqual([constant(loop, even, ("main", 0, "w", "r")), constant(loop, even, ("main", 1, "w", "r")),
                          constant(loop, even, ("main", 1, "r", "w")), constant(loop, even, ("main", 1, "r", "r")),
                          constant(loop, even, ("main", 0, "w", "")), constant(loop, FACTS, ("main", 0, "w", "r"))],
                         [2, 3, -3, 0, None, None])
        self.assertEqual([constant(loop, even, ("main", 0, "", "")), constant(loop, even, ("main", 1, "", "w"))],
                         [0, None])
        program = one({"a": "plain", "b": "plain", "c": "plain"}, ["a"], 3, (0, 1, ("set", [("b", "a", 10 ** 39)])),
                      (0, 1, ("set", [("b", "a", 10 ** 39), ("c", "", 1)])))
        pairs = [("b", "a"), ("a", "b"), ("c", ""), ("b", "")]
        self.assertEqual([constant(program, Facts(["a"]), ("main", 1, x, y)) for x, y in pairs],
                         [10 ** 39, -10 ** 39, None, None])
        self.assertIsNone(constant(program, Facts(["a"]), ("main", 2, "b", "a")))
        rng = random.Random(613)
        for _ in range(40):
            program = wide_program(rng)
            facts = wide_facts(rng, program)
            for name, place, x, y in all_spots(program):
                if {program[name].kind(x), program[name].kind(y)} == {"plain"}:
                    above, below = far(program, facts, (name, place, x, y)), far(program, facts, (name, place, y, x))
                    same = isinstance(above, int) and isinstance(below, int) and above == -below
                    self.assertEqual(constant(program, facts, (name, place, x, y)), above if same else None)
                else:
                    with self.assertRaises(NotFar) as caught:
                        constant(program, facts, (name, place, x, y))
                    self.assertEqual(caught.exception.name, x if program[name].kind(x) != "plain" else y)

    def test_known(self):
        rows = [("f", 0, "x", "y", "r", "w", 4), ("f", 0, "x", "y", "w", "r", 1), ("f", 0, "x", "y", "r", "", -9),
                ("f", 1, "x", "y", "w", "", 0),
                ("f", 0, "x", "", "", "w", 7), ("g", 0, "x", "y", "w", "w", 100), ("f", 0, "x", "z", "", "", "endless")]
        spot = ("f", 0, "x", "y")
        for some in (rows, rows[::-1], rows[3:] + rows[:3]):
            self.assertEqual(known(FACTS, some, spot), 4)
        self.assertEqual([known(FACTS, rows[1:], spot), known(FACTS, rows[2:], spot), known(FACTS, rows[3:], spot),
                          known(FACTS, [], spot)],
                         [3, -4, None, None])
        self.assertEqual([known(FACTS, rows, ("f", 1, "x", "y")), known(FACTS, rows, ("f", 0, "x", "")),
                          known(FACTS, rows, ("g", 0, "x", "y"))],
                         [7, "endless", 100])
        self.assertEqual([known(FACTS, rows, ("f", 0, "x", "z")), known(FACTS, rows, ("f", 0, "x", "w")),
                          known(FACTS, rows, ("h", 0, "x", "y"))],
                         ["endless", None, None])
        greater_rows = [row[:6] + (row[6] if row[6] == "endless" else row[6] + 10 ** 50,) for row in rows]
        self.assertEqual(known(FACTS, greater_rows, spot), 4 + 10 ** 50)
        self.assertEqual(known(FACTS, rows + [spot + ("r", "r", "endless")], spot), "endless")
        self.assertEqual(known(FACTS, [spot + ("", "r", -10 ** 50)], spot), "endless")

    def test_more_and_less(self):
        rng = random.Random(614)
        for _ in range(40):
            program = wide_program(rng)
            facts = wide_facts(rng, program)
            sources = [""] + facts.names()
            x, y = rng.choice(sources), rng.choice(sources)
            start = facts.start_with("", "", 0)
            more = facts.with_fact(x, y, {**start, "": 0}[x] - {**start, "": 0}[y] + rng.randint(0, 2))
            self.assertIs(more.within(facts), True)
            name = rng.choice(program.names())
            fewer = program
            if len(program[name]) > 0:
                fewer = program.with_procedure(name, program[name].without_way(rng.randrange(len(program[name]))))
            for spot in all_spots(program):
                value = far(program, facts, spot)
                for other in (far(program, more, spot), far(fewer, facts, spot)):
                    self.assertFalse(value is None and other is not None)
                    self.assertFalse(other is not None and greater(other, value), spot)

    def test_renamed_programs_tell_the_same(self):
        rng = random.Random(615)
        for _ in range(20):
            program = wide_program(rng)
            facts = wide_facts(rng, program)
            within = {x: y for x, y in zip("abcd", rng.sample(["a", "bb", "c", "xyz"], 4))}
            names = dict(zip(program.names(), rng.sample(["zz", "main", "f", "aa"], len(program))))
            other = Program({name: program[name].renamed({x: within[x] for x in program[name].names()})
                             for name in program.names()}, "main").renamed(names)
            sources = {"": "", **within}
            others = Facts([within[x] for x in facts.names()], [(sources[x], sources[y], c) for x, y,
                                                                c in facts.bounds()])
            for name, place, x, y in all_spots(program):
                self.assertEqual(far(program, facts, (name, place, x, y)),
                                 far(other, others, (names[name], place, sources[x], sources[y])))

    def test_twice_and_two_facts_by_turns(self):
        program, anything = turns_program(), Facts(["p", "q"])
        bound = Facts(["q", "p"], [("p", "q", 1), ("q", "p", 2)])
        spots = all_spots(program)
        expected = [(far(turns_program(), anything, spot), far(turns_program(), bound, spot)) for spot in spots]
        rows, before = Outer(program).rows(), Outer(program).rows()
        kept = copy.deepcopy((anything.bounds(), bound.bounds()))
        for _ in range(2):
            self.assertEqual([(far(program, anything, spot), far(program, bound, spot)) for spot in spots], expected)
            self.assertEqual([(known(anything, rows, spot), known(bound, rows, spot)) for spot in spots], expected)
        self.assertEqual([rows, (anything.bounds(), bound.bounds())], [before, kept])
        self.assertEqual(program, turns_program())


if __name__ == "__main__":
    unittest.main()
