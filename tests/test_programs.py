"""Promise [32]: programs."""

import unittest
from unittest.mock import ANY

from samples import deep, down_program, junk, loop_program, turns_program

from farapart.errors import BadCall, NoEntry, NoName, NoProc, NoWay, Wrong
from farapart.procedures import Procedure
from farapart.programs import Program


def calling(*callees):
    """A procedure without names that calls others."""
    return Procedure({}, [], [], 1, [(0, 0, ("call", name, [], [])) for name in callees])


EMPTY = calling()
# Two parameters and two results, high and plain, low and plain.
CALLEE = Procedure({"h": "high", "p": "plain", "l": "low"}, ["h", "p"], ["l", "p"], 1, [])


def caller(*statements):
    kinds = {"h": "high", "p": "plain", "l": "low", "q": "plain"}
    return Procedure(kinds, [], [], 1, [(0, 0, statement) for statement in statements])


class ProgramsTest(unittest.TestCase):
    def raises(self, error, call, *given):
        with self.assertRaises(error) as caught:
            call(*given)
        self.assertIs(type(caught.exception), error)
        return caught.exception

    def test_the_examples(self):
        loop, down = loop_program(), down_program()
        self.assertEqual([loop["main"].params, loop["main"].uppers(), loop["main"].out(1), loop.called("main")],
                         [("w", "r"), ["", "r", "w"], [1], []])
        self.assertEqual([down.called("main"), down.rings(), down.with_number("main", 0, 0, 4)["main"].way(0)],
                         [["deep"], ["deep"], (0, 1, ("call", "deep", (("a", 4),), ("b",)))])

    def test_what_it_tells(self):
        down = down_program()
        self.assertEqual([down.first, len(down), down.names()], ["main", 2, ["deep", "main"]])
        self.assertEqual(down["deep"].params, ("n",))
        for name, there in [("deep", True), ("main", True), ("a", False), ("", False), ("deeper", False)]:
            self.assertIs(name in down, there)
        for thing in junk() + [["main"], ("main",), {"main": 1}, b"main", down, down["main"]]:
            self.assertIs(thing in down, False)

    def test_no_proc_of_any_value(self):
        down = down_program()
        for thing in junk() + ["a", "mains", ["main"], ("main",), {"main": 1}, 0, down["main"]]:
            self.assertIs(self.raises(NoProc, down.__getitem__, thing).name, thing)
            self.assertIs(self.raises(NoProc, lambda: down[thing]).name, thing)
        for name in ["a", "x"]:
            self.assertEqual(self.raises(NoProc, down.called, name).name, name)
            self.assertEqual(self.raises(NoProc, down.with_number, name, -1, -1, 0).name, name)

    def test_it_is_not_iterated_over(self):
        self.assertRaises(TypeError, list, down_program())

    def test_wrong(self):
        bad = calling("none")
        for thing in junk() + [{}, [], EMPTY, {"a": None}, {"A": EMPTY}, {"": EMPTY}, {1: EMPTY}, {("a",): EMPTY}, deep(),
                               {"a": EMPTY, "b": 1}, {"a": [EMPTY]}, [("a", EMPTY)], {"a": Procedure}, {"a": EMPTY, True: EMPTY}]:
            for first in ("a", "x", None):
                self.assertEqual(self.raises(Wrong, Program, thing, first).place, 0)
        for thing in junk() + ["", "A", None, ["a"], ("a",), deep()]:
            if thing != "x":
                self.assertEqual(self.raises(Wrong, Program, {"a": bad}, thing).place, 1)

    def test_no_proc_then_bad_call(self):
        wrong = caller(("call", "c", [], []))
        self.assertEqual(self.raises(NoProc, Program, {"a": calling("z"), "c": CALLEE}, "x").name, "x")
        procedures = {"c": CALLEE, "b": calling("y", "x"), "a": caller(("call", "c", [], []), ("call", "z", [], []))}
        self.assertEqual(self.raises(NoProc, Program, procedures, "b").name, "z")
        self.assertEqual(self.raises(NoProc, Program, {**procedures, "a": wrong}, "b").name, "y")
        error = self.raises(BadCall, Program, {"c": CALLEE, "b": wrong, "a": calling("c")}, "b")
        self.assertEqual([error.name, error.index], ["a", 0])
        error = self.raises(BadCall, Program, {"c": CALLEE, "b": wrong, "a": calling("b")}, "b")
        self.assertEqual([error.name, error.index], ["b", 0])

    def test_bad_call_is_the_first_that_does_not_go_with_what_it_calls(self):
        good = ("call", "c", [("h", 1), ("p", 2)], ["l", "q"])
        for arguments, results, fine in [
            ([("h", 1), ("p", 2)], ["l", "q"], True), ([("p", 1), ("", 2)], ["l", "h"], True),
            ([("", 1), ("q", 2)], ["l", "p"], True), ([("l", 1), ("p", 2)], ["l", "q"], False),
            ([("h", 1), ("h", 2)], ["l", "q"], False), ([("h", 1), ("l", 2)], ["l", "q"], False),
            ([("h", 1), ("p", 2)], ["p", "q"], False), ([("h", 1), ("p", 2)], ["h", "q"], False),
            ([("h", 1)], ["l", "q"], False), ([("h", 1), ("p", 2), ("p", 2)], ["l", "q"], False),
            ([("h", 1), ("p", 2)], ["l"], False), ([("h", 1), ("p", 2)], ["l", "q", "p"], False), ([], [], False),
            ([("p", 1), ("p", 2)], ["q", "l"], False),
        ]:
            procedures = {"a": caller(("skip",), good, ("call", "c", arguments, results), ("call", "c", [], [])), "c": CALLEE}
            index = 3 if fine else 2
            error = self.raises(BadCall, Program, procedures, "a")
            self.assertEqual([error.name, error.index], ["a", index], (arguments, results))
            procedures["a"] = caller(good, ("call", "c", arguments, results))
            if fine:
                self.assertEqual(Program(procedures, "a").called("a"), ["c"])

    def test_called_reached_rings(self):
        program = Program({
            "a": calling("c", "b", "c"), "b": calling("d"), "c": calling(), "d": calling("e", "b"), "e": calling("e"),
            "f": calling("a", "f"), "g": calling("a"), "h": calling("i"), "i": calling("h", "a"),
        }, "a")
        self.assertEqual([program.called(name) for name in program.names()],
                         [["b", "c"], ["d"], [], ["b", "e"], ["e"], ["a", "f"], ["a"], ["i"], ["a", "h"]])
        self.assertEqual(program.reached(), ["a", "b", "c", "d", "e"])
        self.assertEqual(program.rings(), ["b", "d", "e", "f", "h", "i"])
        self.assertEqual(Program({"b": EMPTY, "a": EMPTY}, "b").reached(), ["b"])
        self.assertEqual(Program({"b": EMPTY, "a": EMPTY}, "b").rings(), [])
        turns = turns_program()
        self.assertEqual([turns.rings(), turns.reached(), turns.called("odd")], [["even", "odd"], ["even", "odd"], ["even"]])

    def test_with_procedure(self):
        program = Program({"a": calling("b"), "b": EMPTY}, "a")
        more = program.with_procedure("c", calling("a"))
        self.assertEqual(more, Program({"a": calling("b"), "b": EMPTY, "c": calling("a")}, "a"))
        self.assertEqual(program.names(), ["a", "b"])
        self.assertEqual(program.with_procedure("b", calling("a")).rings(), ["a", "b"])
        self.assertEqual(self.raises(Wrong, program.with_procedure, "c", None).place, 0)
        self.assertEqual(self.raises(Wrong, program.with_procedure, "C", EMPTY).place, 0)
        self.assertEqual(self.raises(NoProc, program.with_procedure, "c", calling("z")).name, "z")
        error = self.raises(BadCall, program.with_procedure, "b", CALLEE)
        self.assertEqual([error.name, error.index], ["a", 0])

    def test_with_number(self):
        down = down_program()
        changed = down.with_number("deep", 1, 0, -8)
        self.assertEqual(changed["deep"].way(1), (0, 1, ("set", (("m", "n", -8),))))
        self.assertEqual([changed["main"], changed.first], [down["main"], "main"])
        self.assertEqual(changed.with_number("deep", 1, 0, 0), down)
        self.assertEqual(self.raises(NoWay, down.with_number, "deep", 2, 9, 0).index, 2)
        self.assertEqual(self.raises(NoWay, down.with_number, "deep", -1, 9, 0).index, -1)
        self.assertEqual(self.raises(NoEntry, down.with_number, "deep", 1, 1, 0).many, 1)

    def test_renamed(self):
        down = down_program()
        turned = down.renamed({"deep": "main", "main": "deep"})
        self.assertEqual([turned.first, turned.names(), turned.called("deep"), turned.rings()],
                         ["deep", ["deep", "main"], ["main"], ["main"]])
        self.assertEqual(turned["deep"].way(0), (0, 1, ("call", "main", (("a", 3),), ("b",))))
        self.assertEqual(turned["main"].way(1), down["deep"].way(1))
        self.assertEqual(turned.renamed({"deep": "main", "main": "deep"}), down)
        names = {"even": "x", "odd": "y"}
        self.assertEqual(turns_program().renamed(names)["x"].way(1)[2][1], "y")
        self.assertEqual(names, {"even": "x", "odd": "y"})

    def test_equal(self):
        program = Program({"a": calling("b"), "b": EMPTY}, "a")
        self.assertIs(program == Program({"b": EMPTY, "a": calling("b")}, "a"), True)
        self.assertIs(program != Program({"b": EMPTY, "a": calling("b")}, "a"), False)
        for other in [Program({"b": EMPTY, "a": calling("b")}, "b"), Program({"a": EMPTY, "b": EMPTY}, "a"),
                      program.with_procedure("c", EMPTY), Program({"a": EMPTY}, "a")]:
            self.assertIs(program == other, False)
            self.assertIs(program != other, True)
        for thing in junk() + [program["a"], {"a": calling("b"), "b": EMPTY}, ANY]:
            self.assertIs(program == thing, False)

    def test_what_is_passed_in_and_returned_may_be_changed(self):
        procedures = {"b": EMPTY, "a": calling("b")}
        program = Program(procedures, "a")
        self.assertEqual(list(procedures), ["b", "a"])
        procedures.clear()
        for call in (program.names, program.reached, program.rings, lambda: program.called("a")):
            found = call()
            kept = list(found)
            found.append("x")
            self.assertEqual(call(), kept)
        self.assertEqual([program.names(), len(program)], [["a", "b"], 2])

    def test_errors_of_procedures_come_from_procedures(self):
        self.assertEqual(self.raises(NoName, down_program()["deep"].kind, "x").name, "x")


if __name__ == "__main__":
    unittest.main()
