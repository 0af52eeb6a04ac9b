"""Promise [35]: forms."""

import random
import unittest
from unittest.mock import ANY

from runner import behind, random_program
from samples import down_program, junk, turns_program

from farapart.errors import NoName
from farapart.forms import Form
from farapart.procedures import Procedure

KINDS = {"p": "plain", "q": "plain", "h": "high", "i": "high", "l": "low", "m": "low"}


def procedure(params=("p", "h", "l"), results=()):
    return Procedure(KINDS, params, results, 1, [])


def dicts(form):
    return {name: form[name] for name in form.names()}


class FormsTest(unittest.TestCase):
    def check(self, form, **changed):
        """That a form has these dicts, and for the other names what it had at the beginning, in ascending order."""
        for name, told in changed.items():
            self.assertEqual(form[name], told, name)
        for name in form.names():
            self.assertEqual(list(form[name]), sorted(form[name]))

    def test_the_example(self):
        step = Form.begin(down_program()["deep"]).after(("set", [("m", "n", 2), ("n", "", 9)]))
        self.assertEqual([step["m"], step["n"], step.numbers({"n": 4}), step.apart("n", "m")],
                         [{"n": 2}, {"": 9}, {"m": 6, "n": 9}, {("", "n"): 7}])

    def test_begin_and_itself(self):
        begin = Form.begin(procedure())
        self.assertEqual(dicts(begin), {"h": {"h": 0}, "i": {"": 0}, "l": {"l": 0}, "m": {"": 0}, "p": {"p": 0}, "q": {"": 0}})
        itself = Form.itself(procedure())
        self.assertEqual(dicts(itself), {name: {name: 0} for name in KINDS})
        for form in (begin, itself):
            self.assertEqual(form[""], {"": 0})
            self.assertEqual(form.names(), ["h", "i", "l", "m", "p", "q"])
            self.assertEqual({name: form.kind(name) for name in form.names()}, KINDS)

    def test_no_name_of_any_other_value(self):
        form = Form.begin(procedure())
        for thing in junk() + ["x", "hh", "A", ["h"], ("h",), {"h": 1}, None, 0]:
            if thing != "":
                with self.assertRaises(NoName) as caught:
                    form[thing]
                self.assertIs(caught.exception.name, thing)

    def test_it_is_not_iterated_over(self):
        self.assertRaises(TypeError, list, Form.begin(procedure()))

    def test_after_skip_and_set(self):
        begin = Form.begin(procedure())
        self.assertEqual(begin.after(("skip",)), begin)
        self.assertEqual(begin.after(("set", [])), begin)
        self.assertEqual(begin.after(("set", ())), begin)
        form = begin.after(("set", [("q", "p", 3), ("p", "", -2), ("h", "p", 1), ("i", "h", 5), ("l", "l", 7), ("m", "p", 0)]))
        self.assertEqual(dicts(form), {"q": {"p": 3}, "p": {"": -2}, "h": {"p": 1}, "i": {"h": 5}, "l": {"l": 7}, "m": {"p": 0}})
        turned = Form.itself(procedure()).after(("set", [("p", "q", 1), ("q", "p", -1)]))
        self.assertEqual([turned["p"], turned["q"]], [{"q": 1}, {"p": -1}])
        self.assertEqual([turned.after(("set", (("p", "q", 1), ("q", "p", -1))))[x] for x in "pq"], [{"p": 0}, {"q": 0}])
        self.assertEqual([begin["p"], begin["q"]], [{"p": 0}, {"": 0}])

    def test_after_most(self):
        form = Form.begin(procedure()).after(("most", "i", [("p", 3), ("h", 1), ("", 2), ("p", -1)]))
        self.check(form, i={"": 2, "h": 1, "p": 3}, h={"h": 0}, p={"p": 0})
        form = form.after(("most", "h", (("i", -2), ("h", 0), ("q", 9))))
        self.check(form, h={"": 9, "h": 0, "p": 1}, i={"": 2, "h": 1, "p": 3})
        form = form.after(("set", [("i", "h", 10), ("h", "i", 1)]))
        self.check(form, i={"": 19, "h": 10, "p": 11}, h={"": 3, "h": 2, "p": 4})
        self.check(form.after(("most", "i", [("p", 0)])), i={"p": 0})

    def test_after_least(self):
        form = Form.begin(procedure()).after(("least", "m", [("p", 3), ("l", 1), ("", 2), ("p", -1)]))
        self.check(form, m={"": 2, "l": 1, "p": -1})
        form = form.after(("least", "l", [("m", -2), ("l", 0), ("q", 9)]))
        self.check(form, l={"": 0, "l": -1, "p": -3}, m={"": 2, "l": 1, "p": -1})
        self.check(form.after(("set", [("m", "l", 5), ("l", "m", 5)])), m={"": 5, "l": 4, "p": 2}, l={"": 7, "l": 6, "p": 4})

    def test_numbers(self):
        form = Form.begin(procedure()).after(("most", "i", [("p", 3), ("h", 1), ("", 2)]))
        form = form.after(("least", "m", [("p", 3), ("l", 1), ("", 2)]))
        for start in ({"p": 0, "h": 0, "l": 0}, {"p": -9, "h": 9, "l": 9}, {"l": -7, "h": -10 ** 40, "p": 10 ** 40, "x": 5}):
            p, h, l = start["p"], start["h"], start["l"]
            numbers = form.numbers(start)
            self.assertEqual(numbers, {"p": p, "q": 0, "h": h, "l": l, "i": max(p + 3, h + 1, 2), "m": min(p + 3, l + 1, 2)})
            self.assertEqual(list(numbers), sorted(KINDS))
        self.assertEqual(Form.begin(procedure(params=())).numbers({}), {name: 0 for name in KINDS})

    def test_apart(self):
        form = Form.begin(procedure()).after(("most", "i", [("p", 3), ("h", 1), ("", 2)]))
        form = form.after(("least", "m", [("p", 3), ("l", 10)]))
        found = form.apart("i", "m")
        self.assertEqual(found, {("", "l"): -8, ("", "p"): -1, ("h", "l"): -9, ("h", "p"): -2, ("p", "l"): -7, ("p", "p"): 0})
        self.assertEqual(list(found), sorted(found))
        self.assertEqual(form.apart("p", ""), {("p", ""): 0})
        self.assertEqual(form.apart("", "m"), {("", "l"): -10, ("", "p"): -3})
        self.assertEqual(form.apart("i", "p"), {("", "p"): 2, ("h", "p"): 1, ("p", "p"): 3})
        self.assertEqual([form.apart("", ""), form.apart("p", "q")], [{("", ""): 0}, {("p", ""): 0}])

    def test_behind(self):
        callee = Procedure({"x": "high", "y": "plain", "z": "low"}, ["x", "y"], ["y", "x"], 1, [])
        run = Form.begin(callee).after(("most", "x", [("x", 1), ("y", 10), ("", 100)]))
        self.assertEqual([run["x"], run["y"], run["z"]], [{"": 100, "x": 1, "y": 10}, {"y": 0}, {"": 0}])
        ahead = Form.begin(procedure()).after(("most", "h", [("h", 2), ("p", 4)]))
        form = ahead.behind(("call", "f", [("h", 1), ("p", 2)], ["q", "i"]), run)
        self.check(form, q={"p": 2}, i={"": 100, "h": 4, "p": 12}, h={"h": 2, "p": 4}, p={"p": 0}, l={"l": 0}, m={"": 0})
        form = ahead.behind(("call", "f", (("", 1), ("p", 2)), ("p", "h")), run)
        self.check(form, p={"p": 2}, h={"": 100, "p": 12}, q={"": 0})
        self.assertEqual(dicts(ahead)["q"], {"": 0})

    def test_behind_with_parameters_that_are_results(self):
        callee = Procedure({"x": "plain", "y": "plain"}, ["x", "y"], ["x", "y"], 1, [])
        run = Form.begin(callee)
        form = Form.itself(procedure()).behind(("call", "f", [("p", 1), ("q", 2)], ["q", "p"]), run)
        self.check(form, q={"p": 1}, p={"q": 2}, h={"h": 0}, i={"i": 0}, l={"l": 0}, m={"m": 0})
        form = Form.itself(procedure()).behind(("call", "f", [("q", 1), ("q", 2)], ["h", "l"]), run)
        self.check(form, h={"q": 1}, l={"q": 2}, p={"p": 0}, q={"q": 0})

    def test_behind_of_low_results(self):
        callee = Procedure({"z": "low", "y": "plain"}, ["z"], ["z"], 1, [])
        run = Form.begin(callee).after(("least", "z", [("z", 1), ("y", 10), ("z", 5)]))
        ahead = Form.begin(procedure()).after(("least", "l", [("l", 2), ("", 20)]))
        form = ahead.behind(("call", "f", [("l", 3)], ["m"]), run)
        self.check(form, m={"": 10, "l": 6}, l={"": 20, "l": 2})

    def test_entered(self):
        callee = Procedure({"x": "high", "y": "plain", "z": "low"}, ["x", "y"], ["z"], 1, [])
        ahead = Form.begin(procedure()).after(("most", "h", [("h", 2), ("p", 4)]))
        form = ahead.entered(("call", "f", [("h", 1), ("", 2)], ["l"]), callee)
        self.assertEqual(dicts(form), {"x": {"h": 3, "p": 5}, "y": {"": 2}, "z": {"": 0}})
        self.assertEqual([form.names(), form.kind("x"), form.kind("z")], [["x", "y", "z"], "high", "low"])
        same = Procedure({"x": "plain"}, ["x"], ["x"], 1, [])
        self.assertEqual(dicts(ahead.entered(("call", "f", (("p", -1),), ("p",)), same)), {"x": {"p": -1}})

    def test_led(self):
        callee = Procedure({"x": "high", "y": "plain", "z": "low"}, ["x", "y"], ["z"], 1, [])
        ahead = Form.begin(procedure()).after(("most", "h", [("h", 2), ("p", 4)]))
        entry = ahead.entered(("call", "f", [("h", 1), ("p", 2)], ["l"]), callee)
        inside = Form.begin(callee).after(("most", "x", [("x", 1), ("y", 10), ("", 100)]))
        inside = inside.after(("least", "z", [("y", -1), ("", 5)]))
        led = inside.led(entry)
        self.assertEqual(dicts(led), {"x": {"": 100, "h": 4, "p": 12}, "y": {"p": 2}, "z": {"": 5, "p": 1}})
        self.assertEqual(list(led["x"]), ["", "h", "p"])
        self.assertEqual([led.names(), led.kind("z")], [["x", "y", "z"], "low"])
        self.assertEqual(inside.led(Form.itself(callee)), inside)
        self.assertEqual(Form.itself(callee).led(inside), inside)

    def test_led_in_both_orders_of_putting_together(self):
        rng = random.Random(35)
        for _ in range(100):
            head = procedure()
            forms = []
            for _ in range(3):
                form = Form.itself(head)
                for _ in range(3):
                    form = form.after(self.random_statement(rng))
                forms.append(form)
            one, two, three = forms
            self.assertEqual(three.led(two).led(one), three.led(two.led(one)))
            self.assertEqual(two.led(one.led(Form.begin(head))), two.led(one).led(Form.begin(head)))

    def test_led_is_one_behind_the_other(self):
        rng = random.Random(36)
        for _ in range(100):
            statements = [self.random_statement(rng) for _ in range(6)]
            whole, early, late = Form.begin(procedure()), Form.begin(procedure()), Form.itself(procedure())
            for index, statement in enumerate(statements):
                whole = whole.after(statement)
                early = early.after(statement) if index < 3 else early
                late = late.after(statement) if index >= 3 else late
            self.assertEqual(late.led(early), whole)

    def test_numbers_are_those_of_the_statements(self):
        rng = random.Random(37)
        for _ in range(100):
            start = {name: rng.randint(-9, 9) for name in ("p", "h", "l")}
            numbers = {**{name: 0 for name in KINDS}, **start}
            form = Form.begin(procedure())
            for _ in range(8):
                statement = self.random_statement(rng)
                numbers, form = behind(numbers, statement), form.after(statement)
                self.assertEqual(form.numbers(start), numbers)
                for x in ["", "p", "h", "i"]:
                    for y in ["", "q", "l", "m"]:
                        known = {**start, "": 0}
                        most = max(a + known[s] - known[t] for (s, t), a in form.apart(x, y).items())
                        self.assertEqual(most, {**numbers, "": 0}[x] - {**numbers, "": 0}[y])

    def random_statement(self, rng):
        fitting = {"high": ["", "p", "q", "h", "i"], "low": ["", "p", "q", "l", "m"], "plain": ["", "p", "q"]}
        word = rng.choice(["set", "most", "least"])
        if word == "set":
            some = rng.sample(sorted(KINDS), rng.randint(1, 4))
            return (word, [(x, rng.choice(fitting[KINDS[x]]), rng.randint(-4, 4)) for x in some])
        x = rng.choice("hi" if word == "most" else "lm")
        return (word, x, [(rng.choice(fitting[KINDS[x]]), rng.randint(-4, 4)) for _ in range(rng.randint(1, 4))])

    def test_equal(self):
        begin = Form.begin(procedure())
        self.assertIs(begin == Form.begin(procedure(results=["p"])), True)
        self.assertIs(begin != Form.begin(procedure(results=["p"])), False)
        self.assertIs(begin.after(("set", [("q", "", 0)])) == begin, True)
        for other in [Form.itself(procedure()), begin.after(("set", [("q", "", 1)])), begin.after(("set", [("p", "", 0)])),
                      Form.begin(procedure(params=["p", "h"])),
                      Form.begin(Procedure({**KINDS, "q": "high"}, ["p", "h", "l"], [], 1, [])),
                      Form.begin(Procedure({**KINDS, "x": "high"}, ["p", "h", "l"], [], 1, []))]:
            self.assertIs(begin == other, False)
            self.assertIs(begin != other, True)
        for thing in junk() + [dicts(begin), ANY]:
            self.assertIs(begin == thing, False)

    def test_a_form_stays_as_it_is(self):
        form = Form.begin(procedure()).after(("most", "i", [("p", 3), ("h", 1)]))
        start = {"p": 1, "h": 2, "l": 3}
        for _ in range(2):
            self.assertEqual(form["i"], {"h": 1, "p": 3})
            for found in (form["i"], form.names(), form.numbers(start), form.apart("i", "p"), form[""]):
                found.clear()
            form.after(("set", [("i", "", 1)]))
            form.entered(("call", "f", [("i", 1)], []), procedure(params=["h"]))["h"].clear()
            form.led(form)["i"].clear()
        self.assertEqual(start, {"p": 1, "h": 2, "l": 3})

    def test_large_programs_of_all_kinds_make_forms(self):
        rng = random.Random(38)
        for _ in range(30):
            program = random_program(rng)
            for name in program.names():
                form = Form.begin(program[name])
                for _, _, statement in program[name].ways():
                    form = form.after(statement) if statement[0] != "call" else form
                self.assertEqual(form.names(), program[name].names())
                for x in form.names():
                    self.assertTrue(form.kind(x) != "plain" or len(form[x]) == 1)

    def test_calls_of_the_turns(self):
        turns = turns_program()
        run = Form.begin(turns["odd"]).after(turns["odd"].way(1)[2])
        form = Form.begin(turns["even"]).after(turns["even"].way(0)[2]).behind(turns["even"].way(1)[2], run)
        self.assertEqual(dicts(form), {"h": {"p": 3}, "l": {"": 0}, "p": {"p": 0}, "q": {"p": 0}})


if __name__ == "__main__":
    unittest.main()
