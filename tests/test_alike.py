"""Promise [84] and the guarantees [10] and [11]: alike."""

import copy
import random
import unittest

from oracle import all_spots, renamed_all, renamed_spot, short_inner, wide_facts, wide_program
from samples import down_program, loop_program, turns_program

from farapart.alike import idle_ways, inlined, parted, same_far
from farapart.errors import NoName, NoPlace, NoProc, NotFar, NotSo, NoWay, Unlike
from farapart.facts import Facts
from farapart.far import far
from farapart.inner import Inner
from farapart.outer import Outer
from farapart.procedures import Procedure
from farapart.programs import Program

FACTS = Facts(["r", "w"], [("w", "r", 2), ("r", "w", 0), ("r", "", 5)])
BIG = 10 ** 40 - 7
X = {"x": "plain"}


def one(kinds, params, size, *ways):
    return Program({"main": Procedure(kinds, params, [], size, ways)}, "main")


def calls_of(program):
    """All (name, index) of ways that are calls."""
    return [(name, index) for name in program.names() for index, way in enumerate(program[name].ways()) if way[2][0] == "call"]


def called_by(procedure):
    return [way[2][1] for way in procedure.ways() if way[2][0] == "call"]


def changed(rng, program):
    """A program with a little changed, of which all spots are there still."""
    name = rng.choice(program.names())
    procedure = program[name]
    if len(procedure) == 0 or rng.random() < 0.3:
        ends = (rng.randrange(procedure.size), rng.randrange(procedure.size))
        return program.with_procedure(name, procedure.with_way(ends + (("skip",),)))
    index = rng.randrange(len(procedure))
    if procedure.way(index)[2][0] != "skip" and procedure.way(index)[2][-1] and rng.random() < 0.6:
        try:
            return program.with_number(name, index, 0, rng.choice([-2, 0, 1, BIG]))
        except Exception:
            pass
    return program.with_procedure(name, procedure.without_way(index))


class AlikeTest(unittest.TestCase):
    def raises(self, error, call, *given):
        with self.assertRaises(error) as caught:
            call(*given)
        self.assertIs(type(caught.exception), error)
        return caught.exception

    def check_parted(self, one, other, facts, spots):
        expected = None
        for spot in spots:
            mine, others = far(one, facts, spot), far(other, facts, spot)
            if mine != others:
                expected = (spot, mine, others)
                break
        self.assertEqual(parted(one, other, facts, spots), expected)
        self.assertIs(same_far(one, other, facts, spots), expected is None)
        return expected

    def test_a_program_and_itself(self):
        rng = random.Random(840)
        for _ in range(20):
            program = wide_program(rng)
            facts = wide_facts(rng, program)
            same = Program({name: program[name] for name in program.names()[::-1]}, program.first)
            for other in (program, same):
                self.assertIs(same_far(program, other, facts, all_spots(program)), True)
                self.assertIsNone(parted(program, other, facts, all_spots(program)))

    def test_changed_programs_both_ways_round(self):
        rng = random.Random(841)
        seen = {None: 0, "parted": 0, "endless": 0, "never": 0}
        for _ in range(80):
            program = wide_program(rng)
            facts = wide_facts(rng, program)
            other = changed(rng, program)
            spots = rng.sample(all_spots(program), len(all_spots(program)))
            for first, second in ((program, other), (other, program)):
                found = self.check_parted(first, second, facts, spots)
                seen["parted" if found else None] += 1
                seen["endless"] += found is not None and "endless" in found[1:]
                seen["never"] += found is not None and None in found[1:]
        self.assertTrue(min(seen.values()) > 5, seen)

    def test_parted(self):
        loop = loop_program()
        first, second, third = ("main", 0, "w", "r"), ("main", 1, "w", "r"), ("main", 0, "w", "w")
        faster = loop.with_number("main", 0, 0, 2)
        stopped = loop.with_procedure("main", loop["main"].without_way(0))
        turned = Program({"main": Procedure({"r": "plain", "w": "plain"}, ["w", "r"], [], 2, loop["main"].ways()[::-1])}, "main")
        for other, spots, found in [
                (faster, [first, second], (first, 2, "endless")), (faster, [second, first], (second, 3, "endless")),
                (faster, [third], None), (faster, [], None), (stopped, [first, second], (second, 3, None)), (stopped, [first, first], None),
                (turned, [first, second, third], None), (loop.with_number("main", 0, 0, BIG), [third, second], (second, 3, "endless")),
                (loop.with_number("main", 1, 0, 2), [("main", 1, "r", "w")], (("main", 1, "r", "w"), -1, "endless"))]:
            self.assertEqual(parted(loop, other, FACTS, spots), found)
            back = None if found is None else (found[0], found[2], found[1])
            self.assertEqual(parted(other, loop, FACTS, spots), back)
            self.assertEqual([same_far(loop, other, FACTS, spots), same_far(other, loop, FACTS, tuple(spots))], [found is None] * 2)

    def test_errors(self):
        kinds = {"h": "high", "l": "low", "p": "plain"}
        small = Procedure(kinds, ["p"], [], 1, [])
        large = Procedure({**kinds, "h": "low", "q": "plain"}, ["p"], [], 2, [])
        one, other = Program({"main": small, "f": small}, "main"), Program({"main": large, "g": large}, "main")
        facts = Facts(["p"])
        for call in (same_far, parted):
            for spots, error, field, thing in [
                    ([("main", 0, "p", ""), ("f", 0, "p", "")], NoProc, "name", "f"), ([("g", 9, "z", "z")], NoProc, "name", "g"),
                    ([("f", 0, "", ""), ("main", 1, "", "")], NoPlace, "place", 1), ([("main", 0, "q", "")], NoName, "name", "q"),
                    ([("main", 0, "h", "")], NotFar, "name", "h"), ([("main", 0, "l", "h")], NotFar, "name", "l"),
                    ([("main", 0, "p", "h"), ("x", 0, "", "")], NotFar, "name", "h"), ([("f", 0, "", ""), ("main", 0, "h", "")], NoProc, "name", "f")]:
                self.assertEqual(getattr(self.raises(error, call, one, other, facts, spots), field), thing, spots)
                self.raises(Unlike, call, one, other, Facts(["q"]), spots)
            self.assertEqual(self.raises(NotFar, call, other, one, facts, [("main", 0, "h", "q")]).name, "h")
            self.assertEqual(self.raises(NoName, call, other, one, facts, [("main", 0, "q", "")]).name, "q")
            different = Program({"main": Procedure(kinds, [], [], 1, [])}, "main")
            self.raises(Unlike, call, one, different, facts, [("x", 0, "", "")][:0])
            self.raises(NoProc, call, one, different, facts, [("x", 0, "", "")])
            self.raises(Unlike, call, different, one, facts, [("x", 0, "", "")])
            self.raises(Unlike, call, one, different, facts, [("f", 0, "", "")])
        self.assertEqual(self.raises(NoName, idle_ways, one, facts, [("main", 0, "p", "z")]).name, "z")
        self.raises(Unlike, idle_ways, one, Facts([]), [("x", 0, "", "")])

    def test_idle_ways_by_far(self):
        rng = random.Random(842)
        seen = {True: 0, False: 0}
        for _ in range(50):
            program = wide_program(rng)
            facts = wide_facts(rng, program)
            spots = rng.sample(all_spots(program), min(3, len(all_spots(program))))
            expected = []
            for name in program.names():
                for index in range(len(program[name])):
                    less = program.with_procedure(name, program[name].without_way(index))
                    idle = all(far(program, facts, spot) == far(less, facts, spot) for spot in spots)
                    seen[idle] += 1
                    expected += [(name, index)] if idle else []
            self.assertEqual(idle_ways(program, facts, spots), expected)
            self.assertEqual(idle_ways(program, facts, tuple(spots)), expected)
        self.assertTrue(min(seen.values()) > 30, seen)

    def test_idle_ways(self):
        up = (0, 1, ("set", [("x", "x", 1)]))
        f = Procedure(X, ["x"], [], 2, [up, up])
        program = Program({"main": Procedure(X, ["x"], [], 3, [up, up, (0, 1, ("skip",)), (1, 2, ("skip",))]), "f": f}, "main")
        every = [("f", 0), ("f", 1), ("main", 0), ("main", 1), ("main", 2), ("main", 3)]
        facts = Facts(["x"], [("x", "", 0)])
        for spots, idle in [([], every), ([("main", 0, "x", "")], every), ([("main", 1, "x", "")], every),
                            ([("main", 2, "x", "")], every[:5]), ([("f", 1, "x", "x")], every)]:
            self.assertEqual(idle_ways(program, facts, spots), idle, spots)
        once = Program({"main": program["main"].without_way(0), "f": f}, "main")
        self.assertEqual(idle_ways(once, facts, [("main", 1, "x", "")]), [("f", 0), ("f", 1), ("main", 1), ("main", 2)])
        self.assertEqual(idle_ways(loop_program(), FACTS, [("main", 1, "w", "r")]), [("main", 1)])
        self.assertEqual(idle_ways(loop_program(), FACTS, [("main", 0, "w", "r")]), [("main", 0), ("main", 1)])
        self.assertEqual(idle_ways(loop_program(), Facts(["r", "w"], [("w", "", 0)]), [("main", 0, "w", "")]), [])
        self.assertEqual(idle_ways(down_program(), Facts(["a"]), [("deep", 0, "m", "")]), [("deep", 0), ("deep", 1)])

    def check_inlined(self, program, name, index):
        """That what stands there is as it has to be, and that differences and whole runs are the same."""
        begin, end, statement = program[name].way(index)
        before = copy.deepcopy(program)
        found = inlined(program, name, index)
        self.assertEqual(program, before)
        self.assertEqual([found.first, found.names()], [program.first, program.names()])
        for other in program.names():
            if other != name:
                self.assertEqual(found[other], program[other])
        old, new, callee = program[name], found[name], program[statement[1]]
        self.assertEqual([new.params, new.results, new.size], [old.params, old.results, old.size + callee.size + 1])
        self.assertEqual([new.kind(x) for x in old.names()], [old.kind(x) for x in old.names()])
        self.assertEqual(len(new.names()), len(old.names()) + len(callee.names()))
        more = sorted(new.kind(x) for x in new.names() if x not in old.names())
        self.assertEqual(more, sorted(callee.kind(x) for x in callee.names()))
        self.assertEqual(len(new), len(old) + len(callee) + 2)
        for at, way in enumerate(old.ways()):
            if at != index:
                self.assertEqual(new.way(at), way)
        self.assertEqual([new.way(index)[0], new.way(index)[2][0]], [begin, "set"])
        self.assertTrue(old.size <= new.way(index)[1] < new.size - 1)
        self.assertIn((old.size - 1, new.size - 1, ("skip",)), new.ways())
        called = called_by(old) + called_by(callee)
        called.remove(statement[1])
        self.assertEqual(sorted(called_by(new)), sorted(called))
        self.check_same_ends(program, found, name)
        if statement[1] != name:
            self.check_same_at_own_places(program, found, name)
        return found

    def check_same_at_own_places(self, program, found, name):
        one, other = Outer(program), Outer(found)
        procedure = program[name]
        for place in range(procedure.size):
            self.assertIs(other.comes(name, place), one.comes(name, place))
            for x in procedure.uppers():
                for y in procedure.lowers():
                    for s in [""] + list(program[program.first].params):
                        for t in [""] + list(program[program.first].params):
                            self.assertEqual(other.value(name, place, x, y, s, t), one.value(name, place, x, y, s, t))

    def check_same_ends(self, program, found, name):
        """Whole runs of the caller do the same to its results, and end or not as before."""
        one, other = Inner(program), Inner(found)
        self.assertIs(other.ends(name), one.ends(name))
        procedure = program[name]
        for u in procedure.uppers() + ["*"]:
            for v in procedure.lowers() + ["*"]:
                for s in ["", "*"] + list(procedure.params):
                    for t in ["", "*"] + list(procedure.params):
                        told = one.value(name, procedure.size - 1, u, v, s, t)
                        self.assertEqual(other.value(name, found[name].size - 1, u, v, s, t), told)

    def test_inlined_random_programs(self):
        rng = random.Random(843)
        seen = {"itself": 0, "ring": 0, "other": 0}
        for _ in range(120):
            program = wide_program(rng)
            calls = calls_of(program)
            if calls:
                name, index = rng.choice(calls)
                callee = program[name].way(index)[2][1]
                found = self.check_inlined(program, name, index)
                seen["itself" if callee == name else "ring" if callee in program.rings() else "other"] += 1
                facts = wide_facts(rng, program)
                if callee != name:
                    spots = [spot for spot in all_spots(program) if spot[0] == name]
                    self.assertIs(same_far(program, found, facts, spots), True)
        self.assertTrue(min(seen.values()) > 5, seen)

    def test_inlined_twice_and_further(self):
        rng = random.Random(844)
        for _ in range(15):
            program = wide_program(rng)
            for _ in range(3):
                calls = [(name, index) for name, index in calls_of(program) if program[name].way(index)[2][1] != name]
                if calls and sum(program[name].size for name in program.names()) < 40:
                    name, index = rng.choice(calls)
                    program = self.check_inlined(program, name, index)

    def test_a_call_in_a_ring_begins_with_0_each_time(self):
        f = Procedure({"n": "plain", "s": "plain", "x": "plain"}, ["x"], ["s", "x"], 3,
                      [(0, 1, ("set", [("n", "n", 1)])), (1, 2, ("set", [("s", "n", 1)])), (0, 0, ("skip",))])
        main = Procedure({"a": "plain", "s": "plain", "x": "plain"}, ["x"], [], 1, [(0, 0, ("call", "f", [("x", 1)], ["s", "a"]))])
        program = Program({"main": main, "f": f}, "main")
        found = self.check_inlined(program, "main", 0)
        for some in (program, found):
            facts = Facts(["x"])
            self.assertEqual([far(some, facts, ("main", 0, "s", "")), far(some, facts, ("main", 0, "a", "x"))], [2, "endless"])

    def test_names_and_arguments(self):
        f = Procedure({"a": "high", "b": "plain", "c": "low"}, ["b", "a"], ["b", "a"], 2,
                      [(0, 1, ("most", "a", [("a", 1), ("b", 5)])), (0, 1, ("call", "f", [("b", 1), ("b", 0)], ["b", "a"]))])
        main = Procedure({"a": "high", "b": "plain", "h": "high", "c": "plain"}, ["b"], ["a"], 2,
                         [(0, 1, ("call", "f", [("b", 0), ("b", 3)], ["c", "h"])), (0, 1, ("call", "f", [("b", -1), ("a", 3)], ["b", "a"])),
                          (1, 1, ("call", "main", [("c", 2)], ["h"]))])
        program = Program({"main": main, "f": f}, "main")
        for name, index in calls_of(program):
            self.check_inlined(program, name, index)
        # Names of the called one that the caller has too, and a caller that has nearly all the short ones.
        letters = "abcdefghijklmnopqrstuvwxyz"
        many = Procedure({x: "plain" for x in letters[1:]}, [], [], 2, [(0, 1, ("call", "g", [("z", 0)], ["y"]))])
        g = Procedure({"b": "plain", "a": "plain", "aa": "plain"}, ["b"], ["a"], 2, [(0, 1, ("set", [("a", "b", 1), ("aa", "a", 0)]))])
        found = inlined(Program({"main": many, "g": g}, "main"), "main", 0)
        self.assertEqual(len(found["main"].names()), 28)
        self.assertEqual(far(found, Facts([]), ("main", 1, "y", "z")), 1)

    def test_one_that_calls_back_and_a_chain(self):
        self.check_inlined(turns_program(), "even", 1)
        self.check_inlined(turns_program(), "odd", 0)
        self.check_inlined(down_program(), "deep", 0)
        found = self.check_inlined(down_program(), "main", 0)
        self.assertEqual(calls_of(found), [("deep", 0), ("main", 1)])
        ends = [short_inner(down_program(), 4), short_inner(found, 5)]
        self.assertEqual([told["main", 1, "b", "*", "a", "*"] for told in ends], [5, 5])

    def test_errors_of_inlined(self):
        down, loop = down_program(), loop_program()
        self.assertEqual(self.raises(NoProc, inlined, down, "x", 9).name, "x")
        for index in (-1, 2, 10 ** 50):
            self.assertEqual(self.raises(NoWay, inlined, down, "deep", index).index, index)
        self.assertEqual(self.raises(NotSo, inlined, down, "deep", 1).row, 1)
        for index in (0, 1):
            self.assertEqual(self.raises(NotSo, inlined, loop, "main", index).row, index)
        self.assertEqual([down, loop], [down_program(), loop_program()])

    def test_renamed(self):
        rng = random.Random(845)
        for _ in range(12):
            program = wide_program(rng)
            facts = wide_facts(rng, program)
            other, others, within, names = renamed_all(program, facts, rng)
            spots = rng.sample(all_spots(program), min(3, len(all_spots(program))))
            new = [renamed_spot(spot, within, names) for spot in spots]
            told = sorted((names[name], index) for name, index in idle_ways(program, facts, spots))
            self.assertEqual(idle_ways(other, others, new), told)
            for name, index in calls_of(program)[:1]:
                self.assertEqual(Inner(inlined(program, name, index)).ends(name), Inner(inlined(other, names[name], index)).ends(names[name]))

    def test_by_turns_and_twice_and_what_is_handed_in(self):
        turns, facts = turns_program(), Facts(["p", "q"], [("p", "q", 1), ("q", "p", 2)])
        other = turns.with_number("odd", 1, 0, 4)
        spots = [("even", 2, "q", "p"), ("odd", 1, "a", "b")]
        kept = copy.deepcopy(spots)
        expected = [parted(turns_program(), other, facts, spots), idle_ways(turns_program(), facts, spots), inlined(turns_program(), "even", 1)]
        for _ in range(2):
            found = [parted(turns, other, facts, spots), idle_ways(turns, facts, spots), inlined(turns, "even", 1)]
            self.assertEqual(found, expected)
            found[1].append(0)
            found[2]["even"].ways().clear()
        self.assertEqual(spots, kept)
        self.assertEqual(turns, turns_program())


if __name__ == "__main__":
    unittest.main()
