"""Promise [81] and the guarantees [8], [10] and [11]: weakest."""

import copy
import itertools
import random
import unittest

from oracle import all_spots, fixed, renamed_all, renamed_spot, some_claims, wide_facts, wide_program
from samples import down_program, loop_program, turns_program

from farapart.claims import broken
from farapart.errors import NoName, NoPlace, NoProc, NoStart, NotFar, Unlike
from farapart.facts import Facts
from farapart.far import far
from farapart.outer import Outer
from farapart.procedures import Procedure
from farapart.programs import Program
from farapart.weakest import needed, weakest

FACTS = Facts(["r", "w"], [("w", "r", 2), ("r", "w", 0), ("r", "", 5)])
BIG = 10 ** 40 - 7


def one(kinds, params, size, *ways):
    return Program({"main": Procedure(kinds, params, [], size, ways)}, "main")


def keeps_all(program, claims, start):
    """Whether all claims hold for all runs from one start."""
    return broken(program, fixed(start), claims) == []


def starts_at(facts):
    """Starts at the edges of facts, and one beside each edge, and some others."""
    found = [facts.start_with("", "", 0)]
    for x, y, c in facts.bounds():
        found.append(facts.start_with(x, y, c))
        for other in (x, y):
            if other != "":
                for more in (-1, 1):
                    found.append({**found[-1], other: found[-1][other] + more})
    for numbers in itertools.product((-BIG, -2, 0, 3, BIG), repeat=len(facts.names())):
        found.append(dict(zip(facts.names(), numbers)))
    return found


class WeakestTest(unittest.TestCase):
    def raises(self, error, call, *given):
        with self.assertRaises(error) as caught:
            call(*given)
        self.assertIs(type(caught.exception), error)
        return caught.exception

    def check(self, program, claims):
        """That just those starts are let from which all claims hold."""
        found = weakest(program, claims)
        params = program[program.first].params
        if found is None:
            for numbers in itertools.product((-BIG, -3, -1, 0, 2, BIG), repeat=len(params)):
                self.assertFalse(keeps_all(program, claims, dict(zip(params, numbers))))
            return None
        self.assertIsInstance(found, Facts)
        self.assertEqual(found.names(), sorted(params))
        for start in starts_at(found):
            self.assertIs(found.keeps(start), keeps_all(program, claims, start), (claims, start))
        return found

    def test_the_example(self):
        loop = loop_program()
        self.assertIsNone(self.check(loop, [("main", 1, "w", "r", 9), ("main", 0, "r", "", 20)]))
        self.assertEqual(self.check(loop, [("main", 1, "w", "r", 9), ("main", 0, "r", "w", 0)]).bounds(),
                         [("r", "w", 0), ("w", "r", 8)])

    def test_random_programs(self):
        rng = random.Random(810)
        seen = {"none": 0, "bounds": 0, "free": 0}
        for _ in range(120):
            program = wide_program(rng)
            bounded = [row[:4] for row in Outer(program).rows() if row[6] != "endless"]
            spots = [spot for spot in all_spots(program) if spot in bounded] or all_spots(program)
            claims = [rng.choice(spots) + (rng.randint(-4, 8),) for _ in range(rng.randint(1, 3))]
            found = self.check(program, claims)
            seen["none" if found is None else "bounds" if found.bounds() else "free"] += 1
        self.assertTrue(min(seen.values()) > 10, seen)

    def test_by_the_facts(self):
        """A start keeps all claims just if it keeps weakest: so claims hold for facts within it."""
        rng = random.Random(811)
        seen = {True: 0, False: 0}
        for _ in range(80):
            program = wide_program(rng)
            facts = wide_facts(rng, program)
            claims = some_claims(rng, program, facts, rng.randint(0, 3))
            found = weakest(program, claims)
            right = found is not None and facts.within(found)
            seen[right] += 1
            self.assertIs(broken(program, facts, claims) == [], right)
            if found is not None:
                self.assertEqual(broken(program, found, claims), [])
        self.assertTrue(min(seen.values()) > 15, seen)

    def test_edges(self):
        kinds = {"a": "plain", "b": "plain", "h": "high", "l": "low"}
        program = one(kinds, ["a", "b"], 4, (0, 1, ("most", "h", [("a", 3), ("b", 0), ("", 5)])),
                      (0, 1, ("least", "l", [("a", 0), ("b", -2)])), (1, 2, ("set", [("a", "a", BIG)])),
                      (2, 2, ("set", [("a", "a", 1)])))
        for claims, bounds in [
                ([], []), ([("main", 3, "a", "b", -BIG)], []),
                ([("main", 0, "a", "b", 7)], [("a", "b", 7)]), ([("main", 0, "a", "", -3)], [("a", "", -3)]),
                ([("main", 0, "", "b", -3)], [("", "b", -3)]), ([("main", 0, "", "", 0), ("main", 1, "a", "a", 0)], []),
                ([("main", 1, "h", "", 9)], [("a", "", 6), ("b", "", 9)]),
                ([("main", 1, "", "l", 9)], [("", "a", 9), ("", "b", 7)]),
                ([("main", 2, "a", "b", 0)], None), ([("main", 2, "b", "a", 0)], [("b", "a", BIG)]),
                ([("main", 0, "", "", -1)], None), ([("main", 1, "h", "", 4)], None), ([("main", 3, "", "", -1)], []),
                ([("main", 0, "a", "b", -1), ("main", 0, "b", "a", 0)], None),
                ([("main", 0, "a", "b", -1), ("main", 0, "b", "a", 1)], [("a", "b", -1), ("b", "a", 1)]),
                ([("main", 0, "a", "b", 4), ("main", 0, "a", "b", 2), ("main", 0, "b", "", 1)],
                 [("a", "", 3), ("a", "b", 2), ("b", "", 1)])]:
            found = self.check(program, claims)
            self.assertEqual(found if bounds is None else found.bounds(), bounds, claims)

    def test_no_parameters(self):
        program = one({"x": "plain"}, [], 2, (0, 1, ("set", [("x", "", 4)])))
        for claims, right in [([], True), ([("main", 1, "x", "", 4)], True), ([("main", 1, "x", "", 3)], False)]:
            self.assertEqual(weakest(program, claims), Facts([]) if right else None)

    def test_endless_from_all_starts(self):
        down = down_program()
        for c in (-BIG, 0, BIG):
            self.assertIsNone(self.check(down, [("main", 1, "b", "a", c)]))
        self.assertEqual(self.check(down, [("main", 1, "a", "b", -3), ("deep", 0, "m", "n", 7)]).bounds(), [("", "a", 10)])

    def test_needed_by_all_lists(self):
        rng = random.Random(812)
        seen = {0: 0, 1: 0, "many": 0, "deep": 0}
        for _ in range(200):
            program = wide_program(rng)
            facts = wide_facts(rng, program)
            sources = [""] + facts.names()
            told = [(rng.choice(sources), rng.choice(sources), rng.randint(-4, 4)) for _ in range(rng.randint(0, 5))]
            claims = some_claims(rng, program, facts, rng.randint(1, 2))
            right = []
            for many in range(len(told) + 1):
                for indexes in itertools.combinations(range(len(told)), many):
                    if self.is_enough(program, facts, [told[at] for at in indexes], claims):
                        if not any(set(other) <= set(indexes) for other in right):
                            right.append(list(indexes))
            self.assertEqual(needed(program, facts, told, claims), sorted(right))
            seen[len(right) if len(right) < 2 else "many"] += 1
            seen["deep"] += any(len(indexes) > 1 for indexes in right)
        self.assertTrue(min(seen.values()) > 3, seen)

    def is_enough(self, program, facts, told, claims):
        try:
            return broken(program, Facts(facts.names(), facts.bounds() + told), claims) == []
        except NoStart:
            return True

    def test_needed(self):
        program = one({"a": "plain", "b": "plain"}, ["a", "b"], 2, (0, 1, ("set", [("a", "a", 1)])))
        facts = Facts(["a", "b"], [("b", "", 10)])
        claims = [("main", 1, "a", "b", 5), ("main", 0, "a", "", 9)]
        for told, found in [
                ([], []), ([("a", "b", 4)], []), ([("a", "b", 4), ("a", "", 9)], [[0, 1]]),
                ([("a", "b", -1)], [[0]]), ([("a", "b", -1), ("a", "b", -1)], [[0], [1]]),
                ([("a", "b", -1), ("a", "b", -2), ("a", "", 9), ("a", "b", 3)], [[0], [1], [2, 3]]),
                ([("a", "b", 5), ("a", "", 9), ("b", "", 5)], []),
                ([("b", "", 4), ("a", "b", 4)], [[0, 1]]), ([("a", "a", -1)], [[0]]), ([("", "", -BIG), ("a", "b", -1)], [[0], [1]]),
                ([("", "", 0), ("b", "b", 3)], []), ([("", "b", -11)], [[0]]),
                ([("", "b", -10), ("b", "", 9), ("a", "b", 0)], [[0, 1], [1, 2]]),
                ([("a", "", 10), ("a", "b", 4), ("b", "", 5), ("", "a", -8), ("b", "", 3), ("a", "b", 3)],
                 None)]:
            self.assertEqual(needed(program, facts, told, claims), self.by_hand(program, facts, told, claims), told)
            if found is not None:
                self.assertEqual(needed(program, facts, told, claims), found, told)
        tight = facts.with_fact("a", "b", -1)
        for told in ([], [("a", "", 1)], [("a", "", 1)] * 6, [("a", "", -BIG), ("", "a", 0)]):
            self.assertEqual(needed(program, tight, told, claims), [[]])
            self.assertEqual(needed(program, facts, told, []), [[]])
            self.assertEqual(needed(program, facts, tuple(told), [("main", 1, "a", "b", BIG)][:0]), [[]])
        endless = one({"a": "plain"}, ["a"], 1, (0, 0, ("set", [("a", "a", 1)])))
        for told, found in [([], []), ([("a", "", -BIG)], []), ([("a", "", -1), ("", "a", 0)], [[0, 1]])]:
            self.assertEqual(needed(endless, Facts(["a"]), told, [("main", 0, "a", "", 5)]), found)

    def by_hand(self, program, facts, told, claims):
        enough = [indexes for many in range(len(told) + 1) for indexes in itertools.combinations(range(len(told)), many)
                  if self.is_enough(program, facts, [told[at] for at in indexes], claims)]
        return sorted([list(some) for some in enough if not any(set(other) < set(some) for other in enough)])

    def test_errors_of_the_spots_without_facts(self):
        program = one({"h": "high", "l": "low", "p": "plain"}, ["p"], 2)
        right = ("main", 0, "p", "", 0)
        for spot, error, field, thing in [
                (("x", 9, "z", "w"), NoProc, "name", "x"), (("main", 2, "z", "w"), NoPlace, "place", 2),
                (("main", -1, "z", "w"), NoPlace, "place", -1), (("main", 1, "z", "w"), NoName, "name", "z"),
                (("main", 1, "l", "w"), NoName, "name", "w"), (("main", 1, "l", "h"), NotFar, "name", "l"),
                (("main", 1, "h", "h"), NotFar, "name", "h")]:
            for claims in ([spot + (0,)], [right, spot + (0,), ("y", 0, "", "", 0)], [("main", 0, "", "", -1), spot + (0,)]):
                self.assertEqual(getattr(self.raises(error, weakest, program, claims), field), thing)
                self.assertEqual(getattr(self.raises(error, needed, program, Facts(["p"]), [("z", "z", 0)], claims), field), thing)
                self.raises(Unlike, needed, program, Facts(["q"]), [("z", "z", 0)], claims)

    def test_errors_of_told(self):
        program = one({"p": "plain", "q": "plain"}, ["p"], 2)
        facts = Facts(["p"])
        for told, name in [([("q", "z", 0)], "q"), ([("p", "z", 0)], "z"), ([("p", "", 0), ("", "q", -BIG), ("z", "", 0)], "q"),
                           ([("", "", -1), ("*", "p", 0)], "*")]:
            for claims in ([], [("main", 0, "p", "", 0)]):
                self.assertEqual(self.raises(NoName, needed, program, facts, told, claims).name, name)

    def test_a_way_more_lets_no_start_more(self):
        rng = random.Random(813)
        for _ in range(40):
            program = wide_program(rng)
            claims = some_claims(rng, program, wide_facts(rng, program), 2)
            found = weakest(program, claims)
            name = rng.choice(program.names())
            if len(program[name]) > 0:
                fewer = program.with_procedure(name, program[name].without_way(rng.randrange(len(program[name]))))
                other = weakest(fewer, claims)
                self.assertTrue(found is None or (other is not None and found.within(other)))

    def test_renamed(self):
        rng = random.Random(814)
        for _ in range(20):
            program = wide_program(rng)
            facts = wide_facts(rng, program)
            claims = some_claims(rng, program, facts, 2)
            other, others, within, names = renamed_all(program, facts, rng)
            new = [renamed_spot(claim, within, names) for claim in claims]
            found, same = weakest(program, claims), weakest(other, new)
            if found is None:
                self.assertIsNone(same)
            else:
                back = [(within[x], within[y], c) for x, y, c in found.bounds()]
                self.assertEqual(same, Facts(others.names(), back))
            sources = [""] + facts.names()
            told = [(rng.choice(sources), rng.choice(sources), rng.randint(-3, 3)) for _ in range(3)]
            self.assertEqual(needed(program, facts, told, claims),
                             needed(other, others, [(within[x], within[y], c) for x, y, c in told], new))

    def test_by_turns_and_twice_and_what_is_handed_in(self):
        turns, loop = turns_program(), loop_program()
        facts = Facts(["p", "q"])
        claims = [("even", 0, "q", "p", 6), ("even", 1, "p", "l", 2)]
        told = [("q", "p", 1), ("p", "", 4), ("", "p", 0)]
        others = [("main", 1, "w", "r", 9)]
        kept = copy.deepcopy([claims, told, others])
        expected = [weakest(turns_program(), claims), weakest(loop_program(), others), needed(turns_program(), facts, told, claims)]
        for _ in range(2):
            found = [weakest(turns, claims), weakest(loop, others), needed(turns, facts, told, claims)]
            self.assertEqual(found, expected)
            found[2].append([7])
            for indexes in found[2]:
                indexes.append(9)
            for some in found[:2]:
                if some is not None:
                    some.bounds().clear()
        self.assertEqual([claims, told, others], kept)
        self.assertEqual([turns, loop], [turns_program(), loop_program()])
        self.assertEqual(far(loop, FACTS, ("main", 1, "w", "r")), 3)


if __name__ == "__main__":
    unittest.main()
