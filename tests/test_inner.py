"""Promise [51] and the guarantees [10] and [11]: inner."""

import random
import unittest

from oracle import greater, is_closed, short_inner, wide_program, with_copy
from samples import down_program, loop_program, turns_program

from farapart.errors import NoName, NoPlace, NoProc, NotFar
from farapart.inner import Inner
from farapart.outer import Outer
from farapart.procedures import Procedure
from farapart.programs import Program


def table_of(program):
    return {row[:6]: row[6] for row in Inner(program).rows()}


def one(kinds, params, results, size, *ways):
    """A program of one procedure."""
    return Program({"main": Procedure(kinds, params, results, size, ways)}, "main")


def sides(procedure, kinds):
    return ["", "*"] + [x for x in procedure.names() if procedure.kind(x) in kinds]


class InnerTest(unittest.TestCase):
    def raises(self, error, call, *given):
        with self.assertRaises(error) as caught:
            call(*given)
        self.assertIs(type(caught.exception), error)
        return caught.exception

    def test_the_example(self):
        inner = Inner(down_program())
        self.assertEqual([inner.value("deep", 1, "m", "*", "n", "*"), inner.value("deep", 1, "*", "m", "*", "n"),
                          inner.ends("deep")], ["endless", 0, True])

    def test_against_parts_of_few_ways(self):
        rng = random.Random(510)
        programs = [down_program(), loop_program(), turns_program()] + [wide_program(rng) for _ in range(150)]
        same = 0
        for program in programs:
            table, short = table_of(program), short_inner(program, 3)
            for key, value in short.items():
                self.assertFalse(greater(value, table[key]), key)
                same += value == table[key]
        self.assertTrue(same > 5000, same)

    def test_closed_by_the_words_of_the_document(self):
        """No part shows more than a closed table tells; see [62]."""
        rng = random.Random(511)
        for _ in range(100):
            program = wide_program(rng)
            self.assertIs(is_closed(program, Inner(program).rows(), Outer(program).rows()), True)

    def test_shown_by_moments_of_a_copy_with_a_number_that_rests(self):
        """A copy that nobody calls shows just what runs of the procedure itself show; see [60] and [70]."""
        rng = random.Random(512)
        for index in range(150):
            program = wide_program(rng) if index > 3 else [down_program(), loop_program(), turns_program()][index % 3]
            rows = Inner(program).rows()
            for name in program.names():
                copied = [row for row in Outer(with_copy(program, name)).rows() if row[0] == "copy"]
                told = [(name, row[1]) + tuple("*" if x == "rest" else x for x in row[2:6]) + row[6:] for row in copied]
                self.assertEqual(sorted(told), [row for row in rows if row[0] == name])

    def test_rows_are_the_values(self):
        rng = random.Random(513)
        for program in [down_program(), turns_program()] + [wide_program(rng) for _ in range(10)]:
            inner = Inner(program)
            rows = inner.rows()
            self.assertEqual(rows, sorted(rows, key=lambda row: row[:6]))
            table = {row[:6]: row[6] for row in rows}
            self.assertEqual(len(table), len(rows))
            found = 0
            for name in program.names():
                procedure = program[name]
                sources = ["", "*"] + list(procedure.params)
                for place in range(procedure.size):
                    for u in sides(procedure, ("plain", "high")):
                        for v in sides(procedure, ("plain", "low")):
                            for s in sources:
                                for t in sources:
                                    value = inner.value(name, place, u, v, s, t)
                                    self.assertEqual(value, table.get((name, place, u, v, s, t)))
                                    found += value is not None
            self.assertEqual(found, len(rows))

    def test_the_loop(self):
        inner = Inner(loop_program())
        for given, value in [
            (("main", 0, "w", "r", "w", "r"), 0), (("main", 1, "w", "r", "w", "r"), 1),
            (("main", 1, "r", "w", "r", "w"), -1),
            (("main", 0, "w", "w", "w", "w"), 0), (("main", 0, "w", "", "w", ""), "endless"),
            (("main", 0, "", "w", "", "w"), 0),
            (("main", 1, "", "w", "", "w"), -1), (("main", 1, "w", "*", "w", "*"), "endless"),
            (("main", 1, "*", "w", "*", "w"), -1),
            (("main", 0, "*", "*", "*", "*"), 0), (("main", 1, "", "*", "", "*"), 0),
            (("main", 1, "w", "r", "r", "w"), None),
            (("main", 1, "w", "r", "w", "*"), None), (("main", 1, "*", "r", "w", "r"), None),
            (("main", 1, "w", "r", "", "r"), None),
        ]:
            self.assertEqual(inner.value(*given), value, given)

    def test_kinds_of_names(self):
        kinds = {"h": "high", "l": "low", "p": "plain"}
        program = one(kinds, ["h", "l"], [], 2, (0, 1, ("most", "h", [("h", 1), ("", 5), ("p", 9)])),
                      (0, 1, ("least", "l", [("l", 2), ("", -4)])))
        inner = Inner(program)
        for given, value in [
            (("h", "l", "h", "l"), 1), (("h", "l", "", "l"), 9), (("h", "l", "h", ""), 4), (("h", "l", "", ""), None),
            (("h", "*", "", "*"), 9), (("*", "l", "*", "l"), 0), (("*", "l", "*", ""), 4), (("p", "l", "", "l"), 0),
            (("h", "p", "", ""), 9), (("h", "l", "l", "l"), None), (("h", "l", "h", "h"), None),
        ]:
            self.assertEqual(inner.value("main", 1, *given), value, given)

    def test_whole_runs_in_the_place_of_calls(self):
        """What is called gives back its own parameter, the greatest of two, or a number of its own."""
        f = Procedure({"x": "plain", "h": "high"}, ["x"], ["h"], 2, [
            (0, 1, ("most", "h", [("x", 3), ("", 20)])), (0, 1, ("set", [("h", "x", 7)])),
            (0, 0, ("set", [("x", "x", -1)]))])
        main = Procedure({"a": "plain", "k": "high"}, ["a"], [], 2, [(0, 1, ("call", "f", [("a", 100)], ["k"]))])
        inner = Inner(Program({"main": main, "f": f}, "main"))
        self.assertEqual([inner.value("main", 1, "k", v, s, t) for v, s,
                          t in [("a", "a", "a"), ("", "a", ""), ("a", "", "a")]],
                         [107, 107, 20])
        self.assertEqual([inner.value("main", 1, "a", "a", "a", "a"), inner.value("main", 0, "k", "a", "", "a")],
                         [0, 0])
        self.assertIsNone(inner.value("main", 1, "k", "*", "*", "*"))

    def test_endless_by_a_ring_of_ways(self):
        for gain, value in [(1, "endless"), (0, 5), (-1, 5)]:
            program = one({"a": "plain", "b": "plain"}, ["a"], [], 3, (0, 1, ("set", [("b", "a", 5)])),
                          (1, 1, ("set", [("b", "b", gain)])), (1, 2, ("skip",)))
            inner = Inner(program)
            self.assertEqual([inner.value("main", place, "b", "a", "a", "a") for place in (1, 2)], [value, value])
            self.assertEqual(inner.value("main", 2, "a", "b", "a", "a"), "endless" if gain < 0 else -5)
            self.assertEqual(inner.value("main", 2, "a", "a", "a", "a"), 0)

    def test_endless_by_a_ring_within_a_call(self):
        for gain, value in [(1, "endless"), (0, 4)]:
            f = Procedure({"x": "plain"}, ["x"], ["x"], 2, [(0, 0, ("set", [("x", "x", gain)])),
                                                            (0, 1, ("set", [("x", "x", 3)]))])
            main = Procedure({"a": "plain", "b": "plain"}, ["a"], [], 2, [(0, 1, ("call", "f", [("a", 1)], ["b"]))])
            inner = Inner(Program({"main": main, "f": f}, "main"))
            self.assertEqual(inner.value("main", 1, "b", "a", "a", "a"), value)
            self.assertEqual(inner.value("main", 1, "a", "b", "a", "a"), -4)
            self.assertEqual(inner.value("main", 0, "b", "a", "", "a"), 0)

    def test_endless_by_a_call_within_itself(self):
        for back, value in [(-1, 0), (-2, 0), (0, "endless")]:
            # Each turn takes x one up into the call, and back below it again.
            f = Procedure({"x": "plain"}, ["x"], ["x"], 3, [
                (0, 1, ("call", "f", [("x", 1)], ["x"])), (1, 2, ("set", [("x", "x", back)])), (0, 2, ("skip",))])
            inner = Inner(Program({"f": f}, "f"))
            self.assertEqual(inner.value("f", 2, "x", "*", "x", "*"), value)
            self.assertEqual(inner.value("f", 1, "x", "*", "x", "*"), value if value == "endless" else 1)
            self.assertEqual(inner.value("f", 2, "*", "x", "*", "x"), "endless" if back == -2 else 0)

    def test_endless_by_two_that_call_one_another(self):
        for gain, value in [(-4, 0), (-5, 0), (-3, "endless")]:
            f = Procedure({"x": "plain", "y": "plain"}, ["x"], ["y"], 2, [
                (0, 1, ("call", "g", [("x", 4)], ["y"])), (0, 1, ("set", [("y", "x", 0)]))])
            g = Procedure({"x": "plain"}, ["x"], ["x"], 2, [(0, 1, ("call", "f", [("x", gain)], ["x"]))])
            inner = Inner(Program({"f": f, "g": g}, "f"))
            self.assertEqual(inner.value("f", 1, "y", "x", "x", "x"), value)
            self.assertEqual(inner.value("g", 1, "x", "*", "x", "*"), value if value == "endless" else gain)

    def test_runs_that_never_come_to_an_end(self):
        f = Procedure({"x": "plain"}, ["x"], ["x"], 2, [(0, 1, ("call", "f", [("x", 1)], ["x"]))])
        main = Procedure({"a": "plain"}, ["a"], [], 3, [(0, 1, ("call", "f", [("a", 0)], ["a"])), (0, 2, ("skip",))])
        inner = Inner(Program({"main": main, "f": f}, "main"))
        self.assertEqual([inner.ends("f"), inner.ends("main")], [False, True])
        self.assertEqual([inner.value("main", 1, "a", "a", "a", "a"), inner.value("f", 1, "x", "*", "x", "*")],
                         [None, None])
        self.assertEqual([inner.value("f", 0, "x", "*", "x", "*"), inner.value("main", 2, "a", "a", "a", "a")], [0, 0])
        alone = one({}, [], [], 1)
        self.assertEqual([Inner(alone).ends("main"), Inner(alone).rows()[0]], [True, ("main", 0, "", "", "", "", 0)])
        self.assertEqual(self.raises(NoProc, inner.ends, "g").name, "g")

    def test_errors_in_their_order(self):
        kinds = {"h": "high", "l": "low", "p": "plain", "q": "plain"}
        inner = Inner(one(kinds, ["p", "h"], ["l"], 2, (0, 1, ("skip",))))
        value = inner.value
        self.assertEqual(self.raises(NoProc, value, "x", 9, "x", "x", "x", "x").name, "x")
        for place in (2, -1, 10 ** 40):
            self.assertEqual(self.raises(NoPlace, value, "main", place, "x", "x", "x", "x").place, place)
        for given, name in [(("x", "y", "z", "w"), "x"), (("l", "y", "z", "w"), "y"), (("l", "h", "z", "w"), "z"),
                            (("l", "h", "p", "w"), "w"), (("p", "p", "q", "p"), "q"), (("p", "p", "p", "l"), "l"),
                            (("p", "p", "l", "q"), "l"), (("*", "xx", "*", "*"), "xx")]:
            self.assertEqual(self.raises(NoName, value, "main", 1, *given).name, name)
        self.assertEqual(self.raises(NotFar, value, "main", 1, "l", "h", "p", "h").name, "l")
        self.assertEqual(self.raises(NotFar, value, "main", 1, "p", "h", "p", "h").name, "h")
        self.assertEqual(self.raises(NotFar, value, "main", 1, "*", "h", "*", "*").name, "h")
        self.assertEqual([value("main", 1, "h", "l", "h", ""), value("main", 1, "*", "", "*", "")], [0, 0])

    def test_a_way_more_makes_no_value_less(self):
        rng = random.Random(514)
        for _ in range(40):
            program = wide_program(rng)
            table = table_of(program)
            name = rng.choice(program.names())
            if len(program[name]) == 0:
                continue
            fewer = program.with_procedure(name, program[name].without_way(rng.randrange(len(program[name]))))
            for key, value in table_of(fewer).items():
                self.assertFalse(greater(value, table[key]), key)

    def test_renamed_programs_tell_the_renamed_rows(self):
        rng = random.Random(515)
        for _ in range(30):
            program = wide_program(rng)
            names = dict(zip(program.names(), rng.sample(["zz", "main", "f", "aa"], len(program))))
            within = {x: y for x, y in zip("abcd", rng.sample(["a", "bb", "c", "xyz"], 4))}
            other = program
            for name in program.names():
                own = {x: within[x] for x in program[name].names()}
                other = Program({x: other[x].renamed(own) if x == name else other[x] for x in other.names()}, "main")
            other = other.renamed(names)
            told = [(names[row[0]], row[1]) + tuple(within.get(x, x) for x in row[2:6]) + row[6:]
                    for row in Inner(program).rows()]
            self.assertEqual(sorted(told), Inner(other).rows())

    def test_what_is_told_is_its_callers(self):
        down, loop = Inner(down_program()), Inner(loop_program())
        for _ in range(2):
            rows, others = down.rows(), loop.rows()
            self.assertEqual([("deep", 1, "m", "*", "n", "*", "endless") in rows,
                              ("main", 1, "w", "r", "w", "r", 1) in others],
                             [True, True])
            rows.clear()
            others.reverse()
            self.assertEqual([down.value("main", 1, "b", "a", "a", "a"), loop.value("main", 1, "w", "r", "w", "r")],
                             ["endless", 1])
            self.assertEqual(loop.rows(), sorted(others))


if __name__ == "__main__":
    unittest.main()
