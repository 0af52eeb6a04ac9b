"""Promise [70] and the guarantees [5] and [7]: reasons."""

import copy
import random
import unittest
from unittest.mock import ANY

from oracle import all_spots, difference, wide_facts, wide_program
from samples import down_program, junk, loop_program, turns_program

from farapart.errors import Endless, Never
from farapart.facts import Facts
from farapart.far import far
from farapart.outer import Outer
from farapart.plays import played
from farapart.procedures import Procedure
from farapart.programs import Program
from farapart.reasons import is_reason, reason, way_to
from farapart.roads import Roads

FACTS = Facts(["r", "w"], [("w", "r", 2), ("r", "w", 0), ("r", "", 5)])
SPOT = ("main", 1, "w", "r")


def doubling(plain=1):
    """Each procedure calls the next one three times; the last one does something as it likes."""
    kinds = {"x": "plain", "y": "high"}
    last = Procedure(kinds, ["x"], ["x"], 2, [(0, 1, ("set", [("x", "x", plain)])), (0, 1, ("set", [("x", "x", -1)]))])
    turns = [(0, 1, ("call", "g", [("x", 0)], ["x"])), (1, 2, ("call", "g", [("x", 1)], ["x"])),
             (2, 3, ("call", "g", [("x", 0)], ["x"]))]
    middle = Procedure(kinds, ["x"], ["x"], 4, turns)
    main = Procedure(kinds, ["x"], [], 4, [(begin, end, ("call", "f") + way[2:]) for begin, end, way in turns])
    return Program({"main": main, "f": middle, "g": last}, "main")


def twenty_places():
    """A program of which the greatest difference needs some long way through calls, and turns them over."""
    kinds = {"a": "plain", "b": "plain", "c": "plain", "d": "plain"}
    turn = ("set", [("a", "b", 1), ("b", "c", -2), ("c", "d", 3), ("d", "a", -2)])
    ways = [(0, 1, ("call", "f", [("a", 0), ("b", 0)], ["b", "c"])), (1, 2, turn),
            (2, 3, ("call", "f", [("c", 1), ("d", 0)], ["a", "d"])),
            (3, 0, turn), (3, 4, ("skip",)), (4, 5, ("call", "main", [("d", -9), ("a", 0)], ["c", "b"])), (4, 5, turn),
            (5, 5, ("skip",))]
    f = [(0, 1, turn), (1, 2, turn), (2, 0, turn), (2, 3, ("skip",)), (0, 3,
                                                                       ("call", "g", [("b", 1), ("a", 0)], ["a", "b"]))]
    g = [(0, 0, ("set", [("a", "b", 2), ("b", "a", -2)])), (0, 1, turn),
         (1, 2, ("call", "f", [("a", -7), ("c", -7)], ["a", "b"])), (1, 2, turn)]
    return Program({"main": Procedure(kinds, ["a", "b"], ["c", "d"], 6, ways),
                    "f": Procedure(kinds, ["a", "b"], ["c", "d"], 4, f),
                    "g": Procedure(kinds, ["c", "d"], ["a", "b"], 3, g)}, "main")


class ReasonsTest(unittest.TestCase):
    def check(self, program, facts, spot):
        """That far is shown, is endless, or that the place is not come to."""
        told = far(program, facts, spot)
        if told is None:
            self.assertRaises(Never, reason, program, facts, spot)
        elif told == "endless":
            self.assertRaises(Endless, reason, program, facts, spot)
        else:
            found = reason(program, facts, spot)
            self.assertIsInstance(found, tuple)
            rows, start = found
            self.assertEqual([type(rows), type(start), facts.keeps(start)], [list, dict, True])
            self.assertTrue(0 < len(rows) <= 2000)
            self.assertEqual(difference(program, spot, rows, start), told)
            self.assertIs(is_reason(program, facts, spot, told, found), True)
            for number in (told + 1, told - 1, -told - 1):
                self.assertIs(is_reason(program, facts, spot, number, found), False)
            roads = Roads(program, rows)
            if roads.length(len(rows) - 1) <= 200:
                name, place, numbers = played(program, roads.written(len(rows) - 1), start)
                self.assertEqual([(name, place), {**numbers, "": 0}[spot[2]] - {**numbers, "": 0}[spot[3]]],
                                 [spot[:2], told])
            return len(rows)
        return 0

    def test_the_example(self):
        loop = loop_program()
        self.assertIs(is_reason(loop, FACTS, SPOT, 3, reason(loop, FACTS, SPOT)), True)

    def test_random_programs(self):
        rng = random.Random(700)
        shown = 0
        for _ in range(150):
            program = wide_program(rng)
            facts = wide_facts(rng, program)
            for spot in rng.sample(all_spots(program), min(12, len(all_spots(program)))):
                shown += self.check(program, facts, spot) > 0
        self.assertTrue(shown > 500, shown)

    def test_programs_with_all_spots(self):
        for program, facts in [(loop_program(), FACTS), (down_program(), Facts(["a"])),
                               (turns_program(), Facts(["p", "q"], [("p", "q", 3), ("q", "p", 3)])),
                               (twenty_places(), Facts(["a", "b"], [("a", "b", 1), ("b", "a", 1)])),
                               (doubling(), Facts(["x"]))]:
            self.assertTrue(sum([self.check(program, facts, spot) for spot in all_spots(program)]) > 0)

    def test_long_runs_have_few_rows(self):
        program = doubling(10 ** 39)
        facts = Facts(["x"], [("x", "", 10 ** 39), ("", "x", 5)])
        self.assertEqual(far(program, facts, ("main", 3, "x", "")), 10 * 10 ** 39 + 4)
        rows, start = reason(program, facts, ("main", 3, "x", ""))
        self.assertEqual([start, Roads(program, rows).length(len(rows) - 1)], [{"x": 10 ** 39}, 21])
        self.assertTrue(len(rows) < 40, rows)

    def test_numbers_of_forty_digits(self):
        big = 10 ** 40 - 3
        ways = [(0, 1, ("set", [("a", "a", big)])), (1, 2, ("call", "main", [("a", -big), ("b", 0)], [])),
                (0, 2, ("set", [("b", "a", -big)]))]
        program = Program({"main": Procedure({"a": "plain", "b": "plain"}, ["a", "b"], [], 3, ways)}, "main")
        facts = Facts(["a", "b"], [("a", "b", -big), ("b", "a", 2 * big)])
        for spot, value in [(("main", 1, "a", "b"), 0), (("main", 2, "a", "b"), big), (("main", 0, "b", "a"), 2 * big),
                            (("main", 2, "b", "a"), big)]:
            self.assertEqual(far(program, facts, spot), value)
            self.check(program, facts, spot)

    def test_never_then_endless(self):
        kinds = {"a": "plain"}
        program = Program({"main": Procedure(kinds, ["a"], [], 3, [(0, 1, ("set", [("a", "a", 1)])),
                                                                   (1, 1, ("set", [("a", "a", 1)]))])}, "main")
        anything, bound = Facts(["a"]), Facts(["a"], [("a", "", 4), ("", "a", 4)])
        for facts in (anything, bound):
            for x, y in [("a", ""), ("", "a"), ("a", "a"), ("", "")]:
                self.assertRaises(Never, reason, program, facts, ("main", 2, x, y))
        self.assertRaises(Endless, reason, program, bound, ("main", 1, "a", ""))
        self.assertRaises(Endless, reason, program, anything, ("main", 0, "a", ""))
        self.assertEqual(reason(program, bound, ("main", 0, "a", ""))[1], {"a": 4})
        self.assertEqual(reason(program, bound, ("main", 1, "", "a"))[1], {"a": -4})
        self.assertEqual(difference(program, ("main", 1, "", "a"), *reason(program, bound, ("main", 1, "", "a"))), 3)
        self.assertEqual(difference(program, ("main", 1, "a", "a"), *reason(program, anything, ("main", 1, "a", "a"))),
                         0)

    def test_way_to(self):
        rng = random.Random(701)
        seen = {True: 0, False: 0}
        for program in [loop_program(), down_program(), turns_program(), doubling(),
                        twenty_places()] + [wide_program(rng) for _ in range(80)]:
            outer = Outer(program)
            start = {x: 0 for x in program[program.first].params}
            for name in program.names():
                for place in range(program[name].size):
                    rows = way_to(program, name, place)
                    seen[rows is None] += 1
                    self.assertIs(rows is not None, outer.comes(name, place))
                    if rows is not None:
                        roads = Roads(program, rows)
                        self.assertIsInstance(rows, list)
                        self.assertEqual([roads.kind(len(rows) - 1), roads.procedure(len(rows) - 1)],
                                         ["moment", program.first])
                        self.assertEqual(roads.shows(len(rows) - 1, start)[:2], (name, place))
                        self.assertTrue(len(rows) <= 2000)
        self.assertTrue(min(seen.values()) > 20, seen)

    def test_any_reason_is_one(self):
        loop = loop_program()
        rows = [("steps", "main", 0, [0]), ("steps", "main", 1, [1]), ("then", 0, 1), ("again", 2, 7), ("then", 3, 0),
                ("moment", None, 4)]
        for start, number in [({"w": 7, "r": 5}, 3), ({"w": 5, "r": 5}, 1), ({"r": -8, "w": -7}, 2)]:
            thing = (rows, start)
            before = copy.deepcopy(thing)
            self.assertIs(is_reason(loop, FACTS, SPOT, number, thing), True)
            self.assertIs(is_reason(loop, FACTS, SPOT, number, ([rows[0], ("moment", None, 0)], start)), True)
            self.assertIs(is_reason(loop, FACTS, SPOT, number - 1, thing), False)
            self.assertIs(is_reason(loop, FACTS, ("main", 1, "r", "w"), -number, thing), True)
            self.assertIs(is_reason(loop, FACTS, ("main", 1, "w", "w"), 0, thing), True)
            self.assertIs(is_reason(loop, FACTS, ("main", 1, "w", ""), start["w"] + 8, thing), True)
            self.assertIs(is_reason(loop, FACTS, ("main", 1, "", "r"), -start["r"] - 7, thing), True)
            self.assertIs(is_reason(loop, FACTS, ("main", 0, "w", "r"), number, thing), False)
            self.assertEqual(thing, before)

    def test_one_thing_otherwise(self):
        down, facts, spot = down_program(), Facts(["a"], [("a", "", 3)]), ("main", 1, "a", "b")
        rows = [("steps", "deep", 0, (1,)), ("run", 0), ("call", "main", 0, 1), ("moment", None, 2)]
        start = {"a": 2}
        self.assertEqual(is_reason(down, facts, spot, -3, (rows, start)), True)
        things = [
            [rows, start], (rows,), (rows, start, 0), (start, rows), (tuple(rows), start), ({}, start), ([], start),
            (None, start), rows,
            (rows, {"a": 4}), (rows, {"a": True}), (rows, {"a": "2"}), (rows, {}), (rows, {"a": 2, "b": 0}),
            (rows, {"b": 2}), (rows, [("a", 2)]),
            (rows, None), (rows, {"a": None}), (rows, 2), (rows, {("a",): 2}), (rows, ANY), (ANY, start),
            (rows, {"a": ANY}),
            (rows[:3], start), (rows + [("run", 0)], start), (rows + [("steps", "main", 0, ())], start),
            (rows[:2] + [("moment", None, 0)], start),
            (rows + [("steps", "main", 0, ()), ("moment", None, 4)], start),
            (rows + [("steps", "main", 0, ()), ("enter", 4, 0)], start),
            (rows + [("steps", "main", 0, ()), ("enter", 4, 0), ("moment", 5, 0)], start),
        ]
        for at, row in enumerate(rows):
            for place, item in enumerate(row):
                for other in [None, True, -1, 9, "", "x", "deep", (), [], {}, ANY, [item], (item,), (0,), (1, 1),
                              10 ** 40]:
                    if other is ANY or type(other) is not type(item) or other != item:
                        changed = row[:place] + (other,) + row[place + 1:]
                        if changed not in [("steps", "deep", 0, [1])] or other is ANY:
                            things.append((rows[:at] + [changed] + rows[at + 1:], start))
            things += [(rows[:at] + [list(row)] + rows[at + 1:], start),
                       (rows[:at] + [row[:-1]] + rows[at + 1:], start),
                       (rows[:at] + [row + (0,)] + rows[at + 1:], start), (rows[:at] + rows[at + 1:], start),
                       (rows[:at] + [None] + rows[at:], start)]
        for thing in things + junk():
            self.assertIs(is_reason(down, facts, spot, -3, thing), False, thing)
        self.assertIs(is_reason(down, facts, spot, -3, ([("steps", "deep", 0, [1])] + rows[1:], {"a": 3})), True)
        self.assertIs(is_reason(down, facts, ("deep", 0, "", "n"), -5,
                                ([("steps", "main", 0, []), ("enter", 0, 0), ("steps", "deep", 0, []),
                                                                         ("moment", 1, 2)], start)), True)

    def test_what_is_told_is_its_callers(self):
        loop = loop_program()
        for _ in range(2):
            rows, start = reason(loop, FACTS, SPOT)
            ways = way_to(loop, "main", 1)
            self.assertEqual(difference(loop, SPOT, rows, start), 3)
            self.assertEqual(Roads(loop, ways).shows(len(ways) - 1, {"w": 0, "r": 0})[:2], ("main", 1))
            rows.clear()
            start.clear()
            ways.reverse()
        self.assertEqual(loop, loop_program())


if __name__ == "__main__":
    unittest.main()
