"""Promise [71] and the guarantee [5]: beyond."""

import random
import unittest

from oracle import all_spots, difference, wide_facts, wide_program
from samples import down_program, loop_program, turns_program
from test_reasons import doubling, twenty_places

from farapart.beyond import beyond, growth
from farapart.errors import Never
from farapart.facts import Facts
from farapart.far import far
from farapart.outer import Outer
from farapart.procedures import Procedure
from farapart.programs import Program
from farapart.roads import Roads

BIG = 10 ** 40 - 9


def one(kinds, params, results, size, *ways):
    return Program({"main": Procedure(kinds, params, results, size, ways)}, "main")


def each_way():
    """Programs with a spot that is endless, though starts are bounded, and the word of the row that makes it so."""
    up = ("set", [("x", "x", 1)])
    x = {"x": "plain"}
    main = Procedure({"a": "plain", "x": "plain"}, ["x"], [], 2, [(0, 1, ("call", "f", [("x", 0)], ["x"]))])
    yield one(x, ["x"], [], 1, (0, 0, up)), ("main", 0, "x", ""), "again"
    yield one(x, ["x"], [], 2, (0, 0, ("set", [("x", "x", -3)])), (0, 1, ("skip",))), ("main", 1, "", "x"), "again"
    ring = Procedure(x, ["x"], ["x"], 3, [(0, 1, ("skip",)), (1, 1, up), (1, 2, ("set", [("x", "x", -50)]))])
    yield Program({"main": main, "f": ring}, "main"), ("main", 1, "x", ""), "again"
    itself = Procedure(x, ["x"], ["x"], 3, [(0, 1, ("call", "f", [("x", 3)], ["x"])), (1, 2, ("set", [("x", "x", -2)])),
                                            (0, 2, up)])
    yield Program({"main": main, "f": itself}, "main"), ("main", 1, "x", ""), "times"
    yield Program({"main": main, "f": itself}, "main"), ("f", 2, "x", ""), "times"
    lost = Procedure(x, ["x"], ["x"], 2, [(0, 0, ("call", "f", [("x", -2)], ["x"]))])
    yield Program({"main": main, "f": lost}, "main"), ("f", 0, "", "x"), "times"
    there = Procedure(x, ["x"], ["x"], 2, [(0, 1, ("call", "g", [("x", 5)], ["x"])), (0, 1, ("skip",))])
    back = Procedure(x, ["x"], ["x"], 2, [(0, 1, ("call", "f", [("x", -4)], ["x"]))])
    yield Program({"main": main, "f": there, "g": back}, "main"), ("main", 1, "x", ""), "times"
    yield Program({"main": main, "f": there, "g": back}, "main"), ("g", 0, "x", ""), "times"
    # A call whose own ring is far below, in what it calls in its turn, and a ring that goes through calls.
    through = Procedure(x, ["x"], ["x"], 2, [(0, 1, ("call", "g", [("x", 7)], ["x"]))])
    yield Program({"main": main, "f": through, "g": ring}, "main"), ("main", 1, "x", ""), "again"
    round_call = Procedure(x, ["x"], ["x"], 1, [(0, 0, ("call", "g", [("x", -7)], ["x"]))])
    eight = Procedure(x, ["x"], ["x"], 2, [(0, 1, ("set", [("x", "x", 8)])), (0, 1, ("set", [("x", "x", -8)]))])
    yield Program({"main": main, "f": round_call, "g": eight}, "main"), ("main", 1, "x", ""), "again"
    high = one({"h": "high", "p": "plain"}, ["h", "p"], [], 1, (0, 0, ("most", "h", [("h", 1), ("p", 0)])))
    yield high, ("main", 0, "h", "p"), "again"
    low = one({"l": "low", "p": "plain"}, ["l", "p"], ["l"], 2, (0, 1, ("call", "main", [("l", -1), ("p", 0)], ["l"])),
              (0, 1, ("least", "l", [("p", 4), ("l", 0)])))
    yield low, ("main", 1, "p", "l"), "times"


def through_three_calls(ahead, behind, inmost):
    """Endless by what is inmost, with ways ahead of each call and behind it."""
    kinds = {"x": "plain"}

    def around(callee):
        ways = [(0, 1, ("set", [("x", "x", ahead)])), (1, 2, ("call", callee, [("x", behind + 2)], ["x"])),
                (2, 3, ("set", [("x", "x", behind)]))]
        return Procedure(kinds, ["x"], ["x"], 4, ways)

    return Program({"main": around("f"), "f": around("g"), "g": around("h"), "h": inmost}, "main")


def inmost_ones(ahead, behind):
    kinds = {"x": "plain"}
    yield Procedure(kinds, ["x"], ["x"], 4, [(0, 1, ("set", [("x", "x", ahead)])), (1, 1, ("set", [("x", "x", 1)])),
                                             (1, 2, ("skip",)), (2, 3, ("set", [("x", "x", behind)]))])
    yield Procedure(kinds, ["x"], ["x"], 4, [(0, 1, ("set", [("x", "x", ahead)])),
                                             (1, 2, ("call", "h", [("x", 1 - ahead - behind)], ["x"])),
                                             (2, 3, ("set", [("x", "x", behind)])),
                                             (0, 3, ("set", [("x", "x", behind)]))])


def with_other_calls_beside():
    """One calls itself with a gain, behind a call of what becomes endless itself only later, by others.

    f rests on g, which rests on h; h calls k and k calls h, with a gain.
    """
    kinds = {"x": "plain"}

    def calls(*ways):
        return Procedure(kinds, ["x"], ["x"], 4, ways)

    f = calls((0, 3, ("skip",)), (0, 1, ("call", "g", [("x", 0)], ["x"])), (1, 2, ("call", "f", [("x", 1)], ["x"])),
              (2, 3, ("call", "g", [("x", 0)], ["x"])))
    g = calls((0, 3, ("call", "h", [("x", 0)], ["x"])))
    h = calls((0, 3, ("skip",)), (0, 3, ("call", "k", [("x", 0)], ["x"])))
    k = calls((0, 3, ("call", "h", [("x", 1)], ["x"])))
    main = calls((0, 3, ("call", "f", [("x", 0)], ["x"])))
    return Program({"main": main, "f": f, "g": g, "h": h, "k": k}, "main")


def bounded(program):
    """Facts by which starts are near to one another."""
    params = list(program[program.first].params)
    return Facts(params, [(x, y, 3) for x in params + [""] for y in params + [""]])


class BeyondTest(unittest.TestCase):
    def check_beyond(self, program, facts, spot, number):
        found = beyond(program, facts, spot, number)
        self.assertIsInstance(found, tuple)
        rows, start = found
        self.assertEqual([type(rows), type(start), facts.keeps(start)], [list, dict, True])
        self.assertTrue(0 < len(rows) <= 2000)
        self.assertGreater(difference(program, spot, rows, start), number)
        return rows

    def check_growth(self, program, facts, spot):
        found = growth(program, facts, spot)
        self.assertIsInstance(found, tuple)
        rows, start, base, gain = found
        self.assertEqual([type(rows), type(start), type(base), type(gain), facts.keeps(start)],
                         [list, dict, int, int, True])
        self.assertTrue(gain >= 1 and len(rows) <= 2000)
        found = [at for at, row in enumerate(rows) if row[0] in ("again", "times")]
        self.assertEqual([len(found), rows[found[0]][2]], [1, 1])
        at = found[0]
        for many in (1, 2, 3, 10 ** 20):
            changed = rows[:at] + [rows[at][:2] + (many,)] + rows[at + 1:]
            self.assertGreaterEqual(difference(program, spot, changed, start), base + many * gain)
        return rows[at][0]

    def test_the_example(self):
        loop, down = loop_program(), down_program()
        facts, anything = Facts(["r", "w"], [("w", "r", 2), ("r", "w", 0), ("r", "", 5)]), Facts(["a"])
        self.assertIsNone(beyond(loop, facts, ("main", 1, "w", "r"), 3))
        rows, start = beyond(down, anything, ("main", 1, "b", "a"), 10 ** 30)
        name, place, numbers = Roads(down, rows).shows(len(rows) - 1, start)
        self.assertEqual([name, place, numbers["b"] - numbers["a"] > 10 ** 30, len(rows) <= 2000],
                         ["main", 1, True, True])

    def test_random_programs(self):
        rng = random.Random(710)
        seen = {"endless": 0, None: 0, "integer": 0, "again": 0, "times": 0}
        for _ in range(150):
            program = wide_program(rng)
            facts = wide_facts(rng, program)
            endless = {row[:4] for row in Outer(program).rows() if row[6] == "endless"}
            for spot in rng.sample(all_spots(program), min(12, len(all_spots(program)))):
                told = far(program, facts, spot)
                seen[told if told in seen else "integer"] += 1
                if told is None:
                    self.assertRaises(Never, beyond, program, facts, spot, 0)
                    self.assertRaises(Never, growth, program, facts, spot)
                    continue
                if spot in endless:
                    seen[self.check_growth(program, facts, spot)] += 1
                else:
                    self.assertIsNone(growth(program, facts, spot))
                if told == "endless":
                    for number in (-BIG, -1, 0, 1, BIG):
                        self.check_beyond(program, facts, spot, number)
                else:
                    self.assertIsNone(beyond(program, facts, spot, told))
                    self.assertIsNone(beyond(program, facts, spot, told + BIG))
                    for number in (told - 1, told - 5, told - BIG):
                        self.check_beyond(program, facts, spot, number)
        self.assertTrue(min(seen.values()) > 5, seen)

    def test_each_way_to_be_endless(self):
        for program, spot, word in each_way():
            facts = bounded(program)
            self.assertEqual(far(program, facts, spot), "endless", spot)
            self.assertEqual(self.check_growth(program, facts, spot), word, spot)
            for number in (-BIG, -100, -1, 0, 1, 2, 3, 100, BIG):
                self.check_beyond(program, facts, spot, number)

    def test_endless_below_several_calls(self):
        for ahead, behind in [(0, 0), (7, 3), (-7, 3), (7, -3), (-7, -30)]:
            for inmost in inmost_ones(ahead, behind):
                program = through_three_calls(ahead, behind, inmost)
                facts = bounded(program)
                for name, place in [("main", 2), ("main", 3), ("f", 3), ("g", 2), ("h", 3)]:
                    self.assertEqual(far(program, facts, (name, place, "x", "")), "endless")
                    self.check_growth(program, facts, (name, place, "x", ""))
                    self.check_beyond(program, facts, (name, place, "x", ""), BIG)

    def test_endless_beside_other_calls(self):
        program = with_other_calls_beside()
        facts = bounded(program)
        for spot in all_spots(program):
            if far(program, facts, spot) == "endless":
                self.check_growth(program, facts, spot)
                self.check_beyond(program, facts, spot, BIG)
        self.assertEqual([far(program, facts, (name, 3, "x", "")) for name in program.names()], ["endless"] * 5)

    def test_starts_that_are_not_0(self):
        program = one({"a": "plain", "x": "plain"}, ["a"], [], 1, (0, 0, ("set", [("x", "x", 1)])),
                      (0, 0, ("set", [("x", "a", 0)])))
        down = one({"a": "plain", "x": "plain"}, ["a"], [], 1, (0, 0, ("set", [("x", "x", -1)])),
                   (0, 0, ("set", [("x", "a", 0)])))
        for number in (1000, -1000, BIG, -BIG):
            facts = Facts(["a"], [("a", "", number), ("", "a", -number)])
            for some, spots in [(program, [("main", 0, "x", ""), ("main", 0, "x", "a")]),
                                (down, [("main", 0, "", "x"), ("main", 0, "a", "x")])]:
                for spot in spots:
                    self.check_growth(some, facts, spot)
                    self.check_beyond(some, facts, spot, 3 * abs(number))

    def test_endless_by_the_facts(self):
        program = one({"a": "plain", "b": "plain"}, ["a", "b"], [], 2, (0, 1, ("set", [("a", "a", 5)])))
        for facts in ([], [("a", "", 3)], [("", "b", -4)], [("b", "a", 0)]):
            facts = Facts(["a", "b"], facts)
            for number in (-BIG, 0, BIG):
                rows = self.check_beyond(program, facts, ("main", 1, "a", "b"), number)
                self.assertEqual([row for row in rows if row[0] in ("again", "times")], [])
            self.assertIsNone(growth(program, facts, ("main", 1, "a", "b")))
        facts = Facts(["a", "b"], [("a", "b", 3)])
        self.assertIsNone(beyond(program, facts, ("main", 1, "a", "b"), 8))
        self.check_beyond(program, facts, ("main", 1, "a", "b"), 7)
        self.check_beyond(program, facts, ("main", 1, "b", "a"), BIG)

    def test_programs_with_all_spots(self):
        for program in [loop_program(), down_program(), turns_program(), doubling(), twenty_places()]:
            facts = bounded(program)
            for spot in all_spots(program):
                told = far(program, facts, spot)
                if told == "endless":
                    self.check_growth(program, facts, spot)
                    self.check_beyond(program, facts, spot, BIG)
                elif told is not None:
                    self.assertIsNone(beyond(program, facts, spot, told))
                    self.check_beyond(program, facts, spot, told - 1)
                    self.assertIsNone(growth(program, facts, spot))

    def test_never(self):
        program = one({"a": "plain"}, ["a"], [], 3, (0, 1, ("skip",)))
        for facts in (Facts(["a"]), Facts(["a"], [("a", "", 3)])):
            for x, y in [("a", ""), ("", "a"), ("", "")]:
                self.assertRaises(Never, beyond, program, facts, ("main", 2, x, y), -5)
                self.assertRaises(Never, growth, program, facts, ("main", 2, x, y))

    def test_what_is_told_is_its_callers(self):
        down, anything = down_program(), Facts(["a"])
        for _ in range(2):
            rows, start = beyond(down, anything, ("main", 1, "b", "a"), BIG)
            self.assertGreater(difference(down, ("main", 1, "b", "a"), rows, start), BIG)
            grown = growth(down, anything, ("main", 1, "b", "a"))
            for thing in (rows, start, grown[0], grown[1]):
                thing.clear()
            self.assertEqual(self.check_growth(down, anything, ("main", 1, "b", "a")), "times")
        self.assertEqual(down, down_program())


if __name__ == "__main__":
    unittest.main()
