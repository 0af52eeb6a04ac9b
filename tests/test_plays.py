"""Promises [36] and [37]: plays."""

import copy
import itertools
import random
import unittest
from unittest.mock import ANY

from runner import count, is_valid, random_program, shows, step_lists
from samples import deep, down_program, junk, loop_program, turns_program

from farapart.forms import Form
from farapart.plays import form_at, is_moment, is_run, moments, played, shown, steps_of
from farapart.procedures import Procedure
from farapart.programs import Program

RUN = [("call", 0, [("call", 0, [1])])]


def nested(levels, word="call", inner=(1,)):
    """A run or a moment of the procedure deep, so many calls deep."""
    found = list(inner)
    for _ in range(levels):
        found = [(word, 0, found)]
    return found


def eight_calls():
    """One place, from which eight ways call the procedure itself."""
    ways = [(0, 0, ("call", "main", [("a", index)], ["a"])) for index in range(8)]
    return Program({"main": Procedure({"a": "plain"}, ["a"], ["a"], 1, ways)}, "main")


class RunsTest(unittest.TestCase):
    def test_the_example(self):
        down = down_program()
        self.assertEqual([is_moment(down, RUN), played(down, RUN, {"a": 10}), played(down, [("in", 0, [])], {"a": 10})],
                         [True, ("main", 1, {"a": 10, "b": 14}), ("deep", 0, {"m": 0, "n": 13})])
        self.assertEqual([form_at(down, RUN)[2]["b"], shown(down, 4, {"a": 0}, "main", 1, "b", "a")], [{"a": 4}, 5])

    def test_is_run(self):
        down, loop, turns = down_program(), loop_program(), turns_program()
        for program, name, thing in [
            (down, "main", RUN), (down, "deep", [1]), (down, "deep", [("call", 0, [1])]), (down, "main", [("call", 0, [1])]),
            (loop, "main", [0]), (loop, "main", [0, 1, 0]), (turns, "even", [2]), (turns, "even", [2, 3, 2, 3, 0, 4, 4,
             ("call", 1, [("call", 0, [2]), 2, 2])]), (turns, "odd", [1, 2]), (turns, "odd", [("call", 0, [2, 3, 2])]),
            (eight_calls(), "main", []), (eight_calls(), "main", [("call", 7, []), ("call", 0, [("call", 3, [])])]),
        ]:
            self.assertIs(is_run(program, name, thing), True, thing)
        for program, name, thing in [
            (down, "main", []), (down, "main", [0]), (down, "deep", []), (down, "deep", [1, 1]), (loop, "main", []),
            (loop, "main", [0, 1]), (loop, "main", [1]), (down, "main", [("call", 0, [])]), (turns, "even", [0]),
            (turns, "even", [2, 3]), (turns, "odd", [("call", 0, [2, 3])]), (down, "main", [("in", 0, [1])]),
            (down, "main", [("call", 0, [("in", 0, [1])])]), (eight_calls(), "main", [("in", 0, [])]),
            (eight_calls(), "main", [0]), (eight_calls(), "main", [("call", 8, [])]), (eight_calls(), "main", [("call", -1, [])]),
        ]:
            self.assertIs(is_run(program, name, thing), False, thing)

    def test_is_moment(self):
        down, loop = down_program(), loop_program()
        for program, thing in [
            (down, []), (down, RUN), (down, [("in", 0, [])]), (down, [("in", 0, [1])]), (down, [("in", 0, [("in", 0, [])])]),
            (down, [("in", 0, [("in", 0, [("call", 0, [1])])])]), (loop, []), (loop, [0]), (loop, [0, 1]), (loop, [0, 1, 0]),
            (eight_calls(), [("call", 7, []), ("in", 7, [("call", 7, []), ("in", 7, [])])]),
        ]:
            self.assertIs(is_moment(program, thing), True, thing)
        for program, thing in [
            (down, [0]), (down, [1]), (down, [("in", 0, []), 1]), (down, [("in", 1, [])]), (down, [("in", 0, [0])]),
            (down, [("in", 0, []), ("in", 0, [])]), (down, [("call", 0, [("in", 0, [])])]), (down, [("call", 0, [])]),
            (down, [("in", 0, [("in", 0, []), 1])]), (down, [("in", 0, [1, 1])]), (down, [("in", 0, [1, ("in", 0, [])])]),
            (loop, [1]), (loop, [0, 0]), (loop, [("in", 0, [])]), (loop, [("call", 0, [])]), (loop, [2]), (loop, [-1]),
            (eight_calls(), [("in", 0, []), ("call", 0, [])]), (eight_calls(), [("in", 0, []), ("in", 0, [])]),
        ]:
            self.assertIs(is_moment(program, thing), False, thing)

    def spoilt_steps(self, step):
        if isinstance(step, int):
            others = [step + 1, -1, step - 8, bool(step), str(step), None, [step], (step,), {step: 1}, ("call", step, []),
                      10 ** 40, ("in", step, [])]
            return [other for other in others if other is not step]
        word, index, inner = step
        found = [("CALL", index, inner), (word, index), (word, index, inner, inner), [word, index, inner], (index, inner),
                 (word, bool(index), inner), (word, index + 9, inner), (word, -1, inner), (word, str(index), inner),
                 (word, None, inner), (word, [index], inner), (None, index, inner), ([word], index, inner), index,
                 (word, index, tuple(inner)), (word, index, None), (word, index, 1), (word, index, {}), (word, index, deep()),
                 (word, inner, index)]
        return found + [(word, index, thing) for thing in self.spoilt(inner)]

    def spoilt(self, steps):
        """The list of steps with one thing otherwise, at any depth; steps is neither right nor wrong without one."""
        found = []
        for at, step in enumerate(steps):
            for other in self.spoilt_steps(step):
                found.append(steps[:at] + [other] + steps[at + 1:])
        return found

    def left_out_or_twice(self, steps):
        found = []
        for at, step in enumerate(steps):
            found += [steps[:at] + steps[at + 1:], steps[:at] + [step] + steps[at:]]
            if isinstance(step, tuple):
                found += [steps[:at] + [step[:2] + (inner,)] + steps[at + 1:] for inner in self.left_out_or_twice(step[2])]
        return found

    def test_one_thing_otherwise_at_any_depth(self):
        turns = turns_program()
        run = [2, 3, 0, ("call", 1, [("call", 0, [2, 3, 0, ("call", 1, [1])])]), 3, 2]
        moment = run + [3, 0, ("in", 1, [("call", 0, [2]), 2, 2])]
        self.assertIs(is_run(turns, "even", run), True)
        self.assertIs(is_moment(turns, run), True)
        self.assertIs(is_moment(turns, moment), True)
        before = copy.deepcopy(moment)
        things = self.spoilt(run)
        self.assertTrue(len(things) > 100)
        for thing in things:
            self.assertIs(is_run(turns, "even", thing), False, thing)
            self.assertIs(is_moment(turns, thing), self.may_be_a_moment(turns, thing), thing)
        for thing in self.spoilt(moment):
            self.assertIs(is_moment(turns, thing), self.may_be_a_moment(turns, thing), thing)
        for thing in self.left_out_or_twice(run):
            self.assertIs(is_run(turns, "even", thing), is_valid(turns, "even", thing, True), thing)
        for thing in self.left_out_or_twice(moment):
            self.assertIs(is_moment(turns, thing), is_valid(turns, "even", thing, False), thing)
        self.assertEqual(moment, before)

    def may_be_a_moment(self, program, thing):
        """Whether a thing otherwise is right all the same: another index of the same place."""
        try:
            return self.is_plain(thing) and is_valid(program, program.first, thing, False)
        except (IndexError, TypeError):
            return False

    def is_plain(self, steps):
        if not isinstance(steps, list):
            return False
        for step in steps:
            if isinstance(step, tuple):
                if len(step) != 3 or step[0] not in ("call", "in") or type(step[1]) is not int or step[1] < 0:
                    return False
                if not self.is_plain(step[2]):
                    return False
            elif type(step) is not int or step < 0:
                return False
        return True

    def test_values_of_all_kinds(self):
        for program in (down_program(), loop_program(), turns_program()):
            for thing in junk() + [(), (0,), (("call", 0, [1]),), "01", {0: 1}, {0}, [[]], [()], [("call",)], [("in",)],
                                   [("in", 0)], [("call", 0)], [("in", 0, None)], [("in", 0, ())], [("call", 0, deep())], [""],
                                   [(ANY, 0, [1])], [(ANY, 0, [])], [ANY], ANY]:
                self.assertIs(is_moment(program, thing), False, thing)
                for name in program.names():
                    self.assertIs(is_run(program, name, thing), False, thing)

    def test_against_all_short_lists(self):
        rng = random.Random(361)
        programs = [down_program(), loop_program(), turns_program()] + [random_program(rng, 3) for _ in range(25)]
        for program in programs:
            found = {}
            for thing in step_lists(program, 3 if len(program) > 1 else 2):
                self.assertIs(is_moment(program, thing), is_valid(program, program.first, thing, False))
                if is_moment(program, thing):
                    found[repr(thing)] = count(thing)
                for name in program.names():
                    self.assertIs(is_run(program, name, thing), is_valid(program, name, thing, True))
            most = 3 if len(program) > 1 else 2
            told = [repr(moment) for moment in moments(program, most)]
            self.assertEqual(sorted(told), sorted(found))

    def test_steps_of(self):
        for moment, many in [([], 0), ([0, 1, 0], 3), (RUN, 3), ([("in", 0, [])], 1), ([("in", 0, [("in", 0, [1])])], 3),
                             ([2, 3, ("call", 1, [1, 2]), ("in", 1, [("call", 0, [2]), 2])], 9), (nested(40), 41)]:
            self.assertEqual(steps_of(moment), many)

    def test_form_at_and_played_by_the_numbers(self):
        rng = random.Random(362)
        programs = [down_program(), loop_program(), turns_program()] + [random_program(rng) for _ in range(40)]
        for program in programs:
            params = program[program.first].params
            for moment in itertools.islice(moments(program, 4), 400):
                start = {name: rng.randint(-10, 10) for name in params}
                expected = shows(program, moment, start)
                found = played(program, moment, start)
                self.assertEqual(found, expected)
                self.assertIsInstance(found, tuple)
                self.assertEqual(list(found[2]), sorted(expected[2]))
                name, place, form = form_at(program, moment)
                self.assertEqual((name, place, form.numbers(start)), expected)
                self.assertEqual(form.names(), program[name].names())
                self.assertEqual(form_at(program, moment)[2], form)

    def test_form_at_is_by_the_parameters_of_the_first(self):
        down = down_program()
        self.assertEqual(form_at(down, [])[:2], ("main", 0))
        self.assertEqual(form_at(down, [])[2], Form.begin(down["main"]))
        name, place, form = form_at(down, [("in", 0, [("in", 0, [("call", 0, [1])])])])
        self.assertEqual([name, place, form["n"], form["m"]], ["deep", 1, {"a": 4}, {"a": 5}])
        name, place, form = form_at(turns_program(), [0, ("in", 1, [1])])
        self.assertEqual([name, place, form["a"], form["b"]], ["odd", 1, {"p": 3}, {"p": 0}])

    def test_some_thousand_ways_in_one_run(self):
        loop = loop_program()
        run = [0, 1] * 999 + [0]
        self.assertIs(is_run(loop, "main", run), True)
        self.assertIs(is_run(loop, "main", run + [0]), False)
        self.assertEqual([is_moment(loop, run + [1]), is_moment(loop, run + [1, 1]), steps_of(run)], [True, False, 1999])
        self.assertEqual(played(loop, run, {"w": 10 ** 40, "r": -5}), ("main", 1, {"r": 994, "w": 10 ** 40 + 1000}))
        self.assertEqual(form_at(loop, run)[2]["w"], {"w": 1000})

    def test_two_thousand_ways_that_set_all_names(self):
        turn = ("set", [("a", "b", 1), ("b", "c", 2), ("c", "d", -1), ("d", "a", 3)])
        main = Procedure({x: "plain" for x in "abcd"}, ["a"], [], 2, [(0, 0, turn)])
        program = Program({"main": main}, "main")
        moment = [0] * 2000
        self.assertEqual(played(program, moment, {"a": 5}), ("main", 0, {"a": 2505, "b": 2500, "c": 2500, "d": 2500}))
        self.assertEqual(played(program, moment[1:], {"a": 5}), ("main", 0, {"a": 2497, "b": 2504, "c": 2498, "d": 2501}))
        self.assertEqual([form_at(program, moment)[2][x] for x in "ab"], [{"a": 2500}, {"": 2500}])
        self.assertEqual([is_moment(program, moment), is_run(program, "main", moment), steps_of(moment)], [True, False, 2000])

    def test_calls_forty_deep(self):
        down = down_program()
        run, moment = [("call", 0, nested(40))], [("in", 0, nested(40, "in", [("call", 0, [1])]))]
        self.assertEqual([is_run(down, "main", run), is_moment(down, run), is_moment(down, moment)], [True, True, True])
        self.assertEqual([is_run(down, "deep", nested(40)), is_run(down, "main", moment)], [True, False])
        self.assertEqual(played(down, run, {"a": 1}), ("main", 1, {"a": 1, "b": 44}))
        self.assertEqual(played(down, moment, {"a": 1}), ("deep", 1, {"m": 45, "n": 44}))
        self.assertEqual([steps_of(run), steps_of(moment)], [42, 43])
        for spoilt in (nested(40, inner=[True]), nested(40, inner=[]), nested(40, inner=(1, 1)), nested(40, inner=["1"])):
            self.assertIs(is_moment(down, [("call", 0, spoilt)]), False)
        self.assertIs(is_moment(down, [("in", 0, nested(40, "in", [True]))]), False)
        run = []
        for _ in range(40):
            run = [("call", 1, run)] * 2 if len(run) < 2 else [("call", 2, run)] + [("call", 3, [])] * 48
        self.assertIs(is_run(eight_calls(), "main", run), True)

    def test_what_is_passed_in_stays(self):
        turns, start = turns_program(), {"q": 3, "p": 2}
        moment = [2, 3, 0, ("call", 1, [1]), 3, 0, ("in", 1, [("call", 0, [2]), 2])]
        before = copy.deepcopy(moment)
        for _ in range(2):
            name, place, numbers = played(turns, moment, start)
            self.assertEqual((name, place, numbers), shows(turns, moment, start))
            numbers.clear()
            self.assertIs(is_moment(turns, moment), True)
            steps_of(moment)
        self.assertEqual([moment, list(start.items())], [before, [("q", 3), ("p", 2)]])


class MomentsTest(unittest.TestCase):
    def test_each_once_and_those_with_fewer_ways_first(self):
        rng = random.Random(371)
        programs = [down_program(), loop_program(), turns_program()] + [random_program(rng) for _ in range(30)]
        for program in programs:
            many = []
            told = {}
            for moment in itertools.islice(moments(program, 5), 3000):
                self.assertIsInstance(moment, list)
                self.assertIs(is_moment(program, moment), True)
                self.assertNotIn(repr(moment), told)
                told[repr(moment)] = True
                self.assertEqual(steps_of(moment), count(moment))
                many.append(count(moment))
            self.assertEqual(many, sorted(many))
            self.assertTrue(many[0] == 0 and max(many) <= 5)

    def test_of_the_examples(self):
        self.assertEqual(list(moments(loop_program(), 3)), [[], [0], [0, 1], [0, 1, 0]])
        self.assertEqual(list(moments(down_program(), 0)), [[]])
        found = list(moments(down_program(), 3))
        self.assertEqual(found[:2], [[], [("in", 0, [])]])
        self.assertEqual(sorted(map(repr, found[2:])), sorted(map(repr, [
            [("call", 0, [1])], [("in", 0, [1])], [("in", 0, [("in", 0, [])])], [("call", 0, [("call", 0, [1])])],
            [("in", 0, [("call", 0, [1])])], [("in", 0, [("in", 0, [1])])], [("in", 0, [("in", 0, [("in", 0, [])])])],
        ])))

    def spoil(self, steps):
        for step in steps:
            if isinstance(step, tuple):
                self.spoil(step[2])
        steps.clear()

    def test_each_list_is_its_own(self):
        for program in (turns_program(), down_program(), eight_calls()):
            most = 3 if program == eight_calls() else 5
            kept = [repr(moment) for moment in moments(program, most)]
            found = []
            for moment in moments(program, most):
                found.append(repr(moment))
                self.spoil(moment)
            self.assertEqual(found, kept)
            lists = {}
            everything = list(moments(program, most))
            left = list(everything)
            while left:
                steps = left.pop()
                self.assertNotIn(id(steps), lists)
                lists[id(steps)] = steps
                left.extend(step[2] for step in steps if isinstance(step, tuple))

    def test_left_early_and_two_by_turns(self):
        program = eight_calls()
        one, other = moments(program, 6), moments(program, 6)
        found = [[], []]
        for at in range(500):
            found[0].append(next(one))
            if at < 300:
                found[1].append(next(other))
        self.assertEqual(found[0][:300], found[1])
        one.close()
        self.assertEqual(found[0][300:302], [next(other), next(other)])
        for moment in moments(program, 6):
            if steps_of(moment) == 2:
                break
        self.assertEqual(steps_of(moment), 2)

    def test_shown_against_all_moments(self):
        rng = random.Random(372)
        programs = [down_program(), loop_program(), turns_program()] + [random_program(rng, 4) for _ in range(40)]
        for program in programs:
            most = rng.randint(0, 4)
            start = {name: rng.randint(-5, 5) for name in program[program.first].params}
            best = {}
            for moment in moments(program, most):
                name, place, numbers = shows(program, moment, start)
                numbers = {**numbers, "": 0}
                for x, y in itertools.product(numbers, repeat=2):
                    found = numbers[x] - numbers[y]
                    best[name, place, x, y] = max(best.get((name, place, x, y), found), found)
            for name in program.names():
                for place in range(program[name].size):
                    for x, y in itertools.product([""] + program[name].names(), repeat=2):
                        self.assertEqual(shown(program, most, start, name, place, x, y), best.get((name, place, x, y)))

    def test_shown_where_no_moment_shows_the_place(self):
        down = down_program()
        self.assertIsNone(shown(down, 1, {"a": 0}, "main", 1, "b", "a"))
        self.assertEqual(shown(down, 2, {"a": 0}, "main", 1, "b", "a"), 3)
        self.assertIsNone(shown(down, 0, {"a": 0}, "deep", 0, "n", ""))
        self.assertEqual(shown(down, 1, {"a": 7}, "deep", 0, "n", ""), 10)
        self.assertEqual(shown(down, 0, {"a": 10 ** 40}, "main", 0, "a", ""), 10 ** 40)
        self.assertIsNone(shown(loop_program(), 0, {"r": 0, "w": 0}, "main", 1, "w", "r"))
        self.assertEqual(shown(loop_program(), 6, {"r": 3, "w": 5, "x": 1}, "main", 1, "w", "r"), 3)

    def test_shown_takes_no_end_of_what_is_called_for_the_end_of_a_run(self):
        called = Procedure({"x": "plain"}, [], ["x"], 2, [(0, 1, ("set", [("x", "x", 100)]))])
        between = Procedure({"x": "plain", "y": "plain"}, [], ["x"], 2, [(0, 1, ("call", "g", [], ["y"]))])
        main = Procedure({"a": "plain"}, [], [], 2, [(0, 1, ("call", "f", [], ["a"]))])
        program = Program({"main": main, "f": between, "g": called}, "main")
        self.assertEqual(shown(program, 6, {}, "main", 1, "a", ""), 0)
        self.assertEqual(shown(program, 6, {}, "g", 1, "x", ""), 100)
        self.assertEqual(shown(program, 6, {}, "f", 1, "y", "x"), 100)
        self.assertEqual(shown(program, 6, {}, "f", 0, "y", ""), 0)

    def test_shown_counts_many_moments(self):
        self.assertEqual(shown(eight_calls(), 6, {"a": 1}, "main", 0, "a", ""), 1 + 6 * 7)


if __name__ == "__main__":
    unittest.main()
