"""Promise [60]: outer."""

import random
import unittest

from oracle import greater, is_closed, short_outer, wide_program
from samples import down_program, loop_program, turns_program

from farapart.errors import NoName, NoPlace, NoProc, NotFar
from farapart.inner import Inner
from farapart.outer import Outer
from farapart.procedures import Procedure
from farapart.programs import Program


def table_of(program):
    return {row[:6]: row[6] for row in Outer(program).rows()}


class OuterTest(unittest.TestCase):
    def raises(self, error, call, *given):
        with self.assertRaises(error) as caught:
            call(*given)
        self.assertIs(type(caught.exception), error)
        return caught.exception

    def test_against_moments_of_few_ways(self):
        rng = random.Random(600)
        same = 0
        for program in [down_program(), loop_program(), turns_program()] + [wide_program(rng) for _ in range(150)]:
            table, short = table_of(program), short_outer(program, 3)
            for key, value in short.items():
                self.assertFalse(greater(value, table[key]), key)
                same += value == table[key]
        self.assertTrue(same > 3000, same)

    def test_closed_by_the_words_of_the_document(self):
        rng = random.Random(601)
        for _ in range(100):
            program = wide_program(rng)
            self.assertIs(is_closed(program, Inner(program).rows(), Outer(program).rows()), True)

    def test_rows_are_the_values(self):
        rng = random.Random(602)
        for program in [down_program(), turns_program()] + [wide_program(rng) for _ in range(20)]:
            outer = Outer(program)
            rows = outer.rows()
            self.assertEqual(rows, sorted(rows, key=lambda row: row[:6]))
            table = {row[:6]: row[6] for row in rows}
            sources = [""] + list(program[program.first].params)
            found = 0
            for name in program.names():
                procedure = program[name]
                for place in range(procedure.size):
                    self.assertIs(outer.comes(name, place), (name, place, "", "", "", "") in table)
                    for u in procedure.uppers():
                        for v in procedure.lowers():
                            for s in sources:
                                for t in sources:
                                    value = outer.value(name, place, u, v, s, t)
                                    self.assertEqual(value, table.get((name, place, u, v, s, t)))
                                    found += value is not None
            self.assertEqual(found, len(rows))

    def test_the_programs_of_the_document(self):
        loop, down = Outer(loop_program()), Outer(down_program())
        for outer, given, value in [
            (loop, ("main", 0, "w", "r", "w", "r"), 0), (loop, ("main", 1, "w", "r", "w", "r"), 1),
            (loop, ("main", 1, "r", "w", "r", "w"), -1), (loop, ("main", 1, "w", "", "w", ""), "endless"),
            (loop, ("main", 1, "w", "r", "r", "w"), None), (down, ("deep", 0, "n", "", "a", ""), "endless"),
            (down, ("deep", 0, "", "n", "", "a"), -3), (down, ("deep", 0, "m", "", "", ""), 0),
            (down, ("deep", 0, "m", "", "a", ""), None),
            (down, ("deep", 1, "m", "n", "a", "a"), "endless"), (down, ("deep", 1, "n", "m", "a", "a"), 0),
            (down, ("main", 1, "b", "a", "a", "a"), "endless"), (down, ("main", 1, "a", "b", "a", "a"), -3),
            (down, ("main", 0, "b", "a", "", "a"), 0), (down, ("main", 0, "", "", "", ""), 0),
        ]:
            self.assertEqual(outer.value(*given), value, given)

    def test_places_that_are_not_come_to(self):
        f = Procedure({"x": "plain"}, ["x"], [], 3, [(0, 1, ("skip",)), (2, 1, ("skip",)),
                                                     (1, 1, ("call", "f", [("x", 0)], []))])
        unused = Procedure({}, [], [], 2, [(0, 1, ("call", "main", [("", 0)], []))])
        main = Procedure({"a": "plain"}, ["a"], [], 3, [(0, 1, ("call", "f", [("a", 0)], [])),
                                                        (2, 2, ("call", "g", [], []))])
        outer = Outer(Program({"main": main, "f": f, "g": unused}, "main"))
        told = [[outer.comes(name, place) for place in range(size)] for name, size in [("main", 3), ("f", 3), ("g", 2)]]
        self.assertEqual(told, [[True, False, False], [True, True, False], [False, False]])
        self.assertEqual([outer.value("f", 2, "x", "x", "a", "a"), outer.value("main", 1, "a", "", "a", "")],
                         [None, None])
        self.assertEqual({row[:2] for row in outer.rows()}, {("main", 0), ("f", 0), ("f", 1)})

    def test_endless_by_a_way_round(self):
        for gain, value in [(1, "endless"), (0, 0), (-1, 0)]:
            main = Procedure({"a": "plain", "b": "plain"}, ["a", "b"], [], 2, [
                (0, 0, ("set", [("a", "b", gain), ("b", "a", 0)])), (0, 1, ("skip",))])
            outer = Outer(Program({"main": main}, "main"))
            self.assertEqual([outer.value("main", 1, "a", "", "a", ""), outer.value("main", 1, "a", "b", "a", "b")],
                             [value, {1: 0, 0: 0, -1: 0}[gain]])
            self.assertEqual(outer.value("main", 0, "", "a", "", "a"), "endless" if gain < 0 else 0)

    def test_endless_by_a_call_that_stands_within_itself(self):
        for back in (-1, 0, 1):
            f = Procedure({"x": "plain"}, ["x"], ["x"], 3, [
                (0, 1, ("call", "f", [("x", 1)], ["x"])), (1, 2, ("set", [("x", "x", back - 1)])), (0, 2, ("skip",))])
            main = Procedure({"a": "plain", "b": "plain"}, ["a"], [], 2, [(0, 1, ("call", "f", [("a", 0)], ["b"]))])
            outer = Outer(Program({"main": main, "f": f}, "main"))
            self.assertEqual(outer.value("main", 1, "b", "a", "a", "a"), "endless" if back > 0 else 0)
            self.assertEqual(outer.value("main", 1, "a", "b", "a", "a"), "endless" if back < 0 else 0)
            # Within the calls themselves the number goes up with every call, whatever comes then.
            self.assertEqual([outer.value("f", place, "x", "", "a", "") for place in range(3)], ["endless"] * 3)

    def test_endless_by_one_that_never_comes_back(self):
        f = Procedure({"x": "plain"}, ["x"], ["x"], 2, [(0, 0, ("call", "f", [("x", 2)], ["x"]))])
        main = Procedure({"a": "plain"}, ["a"], [], 2, [(0, 1, ("call", "f", [("a", 1)], ["a"]))])
        outer = Outer(Program({"main": main, "f": f}, "main"))
        self.assertEqual([outer.value("f", 0, "x", "", "a", ""), outer.value("f", 0, "", "x", "", "a")],
                         ["endless", -1])
        self.assertEqual([outer.comes("main", 1), outer.comes("f", 1)], [False, False])
        g = Procedure({"x": "plain"}, ["x"], [], 1, [(0, 0, ("call", "f", [("x", 0)], []))])
        f = Procedure({"x": "plain"}, ["x"], [], 1, [(0, 0, ("call", "g", [("x", -1)], []))])
        outer = Outer(Program({"f": f, "g": g}, "f"))
        self.assertEqual([outer.value("g", 0, "x", "", "x", ""), outer.value("g", 0, "", "x", "", "x")],
                         [-1, "endless"])

    def test_kinds_of_names_and_sources(self):
        kinds = {"h": "high", "l": "low", "p": "plain"}
        main = Procedure(kinds, ["h", "l"], [], 2, [(0, 1, ("most", "h", [("h", 1), ("p", 5)])),
                                                    (0, 1, ("least", "l", [("l", 2), ("", 3)]))])
        outer = Outer(Program({"main": main}, "main"))
        for given, value in [(("h", "l", "h", "l"), 1), (("h", "l", "", "l"), 5), (("h", "l", "h", ""), -3),
                             (("h", "l", "l", "l"), None),
                             (("h", "l", "h", "h"), None), (("p", "l", "", ""), -3), (("", "", "", ""), 0)]:
            self.assertEqual(outer.value("main", 1, *given), value, given)

    def test_errors_in_their_order(self):
        kinds = {"h": "high", "l": "low", "p": "plain"}
        f = Procedure({"k": "high", "x": "plain", "m": "low"}, ["x"], [], 2, [])
        main = Procedure(kinds, ["p", "h"], ["l"], 3, [(0, 1, ("call", "f", [("p", 0)], []))])
        value = Outer(Program({"main": main, "f": f}, "main")).value
        self.assertEqual(self.raises(NoProc, value, "x", 9, "x", "x", "x", "x").name, "x")
        self.assertEqual(self.raises(NoPlace, value, "f", 2, "*", "x", "x", "x").place, 2)
        self.assertEqual(self.raises(NoPlace, value, "f", -1, "*", "x", "x", "x").place, -1)
        for given, name in [(("*", "*", "*", "*"), "*"), (("m", "*", "*", "*"), "*"), (("p", "q", "r", "s"), "p"),
                            (("x", "q", "r", "s"), "q"),
                            (("m", "k", "x", "s"), "x"), (("m", "k", "p", "l"), "l"), (("m", "k", "*", "x"), "*"),
                            (("m", "k", "p", "*"), "*")]:
            self.assertEqual(self.raises(NoName, value, "f", 1, *given).name, name)
        self.assertEqual(self.raises(NotFar, value, "f", 1, "m", "k", "p", "h").name, "m")
        self.assertEqual(self.raises(NotFar, value, "f", 1, "k", "k", "p", "h").name, "k")
        self.assertEqual([value("f", 0, "k", "m", "", ""), value("f", 0, "x", "m", "p", ""),
                          value("f", 1, "x", "m", "p", "")], [0, 0, None])
        comes = Outer(Program({"main": main, "f": f}, "main")).comes
        self.assertEqual(self.raises(NoProc, comes, "x", 9).name, "x")
        self.assertEqual(self.raises(NoPlace, comes, "main", 3).place, 3)
        self.assertEqual(self.raises(NoPlace, comes, "main", -1).place, -1)

    def test_a_way_more_makes_no_value_less(self):
        rng = random.Random(603)
        for _ in range(60):
            program = wide_program(rng)
            table = table_of(program)
            name = rng.choice(program.names())
            if len(program[name]) > 0:
                fewer = program.with_procedure(name, program[name].without_way(rng.randrange(len(program[name]))))
                for key, value in table_of(fewer).items():
                    self.assertFalse(greater(value, table[key]), key)

    def test_what_is_told_is_its_callers(self):
        one, other = Outer(down_program()), Outer(loop_program())
        kept = [one.rows(), other.rows()]
        for _ in range(2):
            rows, others = one.rows(), other.rows()
            self.assertEqual([rows, others], kept)
            rows.clear()
            others.reverse()
            self.assertEqual([one.value("main", 1, "b", "a", "a", "a"), other.value("main", 1, "w", "r", "w", "r")],
                             ["endless", 1])
            self.assertEqual([one.comes("deep", 1), other.comes("main", 1)], [True, True])


if __name__ == "__main__":
    unittest.main()
