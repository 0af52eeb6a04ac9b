"""Promise [80] and the guarantees [10] and [11]: claims."""

import copy
import random
import unittest

from oracle import all_spots, difference, renamed_all, renamed_spot, some_claims, wide_facts, wide_program
from samples import down_program, junk, loop_program, turns_program

from farapart.claims import broken, counter, holds, is_claim
from farapart.facts import Facts
from farapart.far import far
from farapart.plays import played
from farapart.procedures import Procedure
from farapart.programs import Program
from farapart.roads import Roads

FACTS = Facts(["r", "w"], [("w", "r", 2), ("r", "w", 0), ("r", "", 5)])
BIG = 10 ** 40 - 7
KINDS = {"p": "plain", "h": "high", "l": "low", "q": "plain"}
# Place 2 is not come to, at place 1 q is endless.
MAIN = Procedure(KINDS, ["p", "h"], ["l"], 3, [(0, 1, ("skip",)), (1, 1, ("set", [("q", "q", 1)]))])
PROGRAM = Program({"main": MAIN, "unused": Procedure(KINDS, [], [], 1, [])}, "main")
BOUNDED = Facts(["h", "p"], [("p", "", 3), ("", "p", 2), ("h", "p", 0)])


def checked_counter(test, program, facts, claim):
    """That what counter tells breaks a claim."""
    found = counter(program, facts, claim)
    test.assertIsInstance(found, tuple)
    rows, start = found
    test.assertEqual([type(rows), type(start), facts.keeps(start)], [list, dict, True])
    test.assertTrue(0 < len(rows) <= 2000)
    test.assertGreater(difference(program, claim[:4], rows, start), claim[4])


class ClaimsTest(unittest.TestCase):
    def test_the_example(self):
        loop = loop_program()
        self.assertEqual([holds(loop, FACTS, ("main", 1, "w", "r", 3)),
                          broken(loop, FACTS, [("main", 0, "w", "r", 1), ("main", 1, "r", "w", 0)])], [True, [0]])

    def test_is_claim(self):
        for claim in [("main", 0, "p", "q", 0), ("main", 2, "h", "l", -BIG), ("main", 1, "", "", BIG),
                      ("main", 2, "p", "p", 3), ("unused", 0, "h", "", 10 ** 70), ("main", 0, "", "l", 1)]:
            self.assertIs(is_claim(PROGRAM, claim), True, claim)
        right = ("main", 1, "h", "q", 5)
        for at, things in enumerate([["x", "", "p", "MAIN", 0], [-1, 3, 10 ** 50, "1", True, False], ["l", "x", "*", "H", 0],
                                     ["h", "x", "*", "A", 0], ["5", True, False, "endless", "", 2j]]):
            for thing in things + [None, [], (), {}, [right[at]], (right[at],), {right[at]}, b"p", PROGRAM, MAIN, Facts]:
                self.assertIs(is_claim(PROGRAM, right[:at] + (thing,) + right[at + 1:]), False, (at, thing))
        self.assertIs(is_claim(PROGRAM, ("unused", 1, "p", "p", 0)), False)
        for thing in junk() + [list(right), right[:4], right + (0,), right[1:], (right,), [right], {right: 1}, PROGRAM, MAIN,
                               FACTS, set(right), "main 1 h q 5", (None,) * 5, (right,) * 5, tuple(range(10000))]:
            self.assertIs(is_claim(PROGRAM, thing), False, thing)

    def test_one_below_at_and_one_above(self):
        loop = loop_program()
        for spot in all_spots(loop):
            told = far(loop, FACTS, spot)
            for claim in [spot + (c,) for c in ([told - 1, told, told + 1] if isinstance(told, int) else [-BIG, 0, BIG])]:
                right = isinstance(told, int) and claim[4] >= told
                self.assertIs(holds(loop, FACTS, claim), right)
                self.assertEqual(broken(loop, FACTS, [claim, claim]), [] if right else [0, 1])
                if right:
                    self.assertIsNone(counter(loop, FACTS, claim))
                else:
                    checked_counter(self, loop, FACTS, claim)

    def test_endless_and_never(self):
        for c in (-BIG, 0, BIG):
            for spot in [("main", 1, "q", ""), ("main", 1, "q", "l"), ("main", 1, "q", "p")]:
                self.assertIs(holds(PROGRAM, BOUNDED, spot + (c,)), False)
                checked_counter(self, PROGRAM, BOUNDED, spot + (c,))
            for spot in [("main", 2, "q", ""), ("main", 2, "h", "l"), ("unused", 0, "", "p"), ("unused", 0, "", "")]:
                self.assertIs(holds(PROGRAM, BOUNDED, spot + (c,)), True)
                self.assertIsNone(counter(PROGRAM, BOUNDED, spot + (c,)))
        self.assertEqual(broken(PROGRAM, BOUNDED, []), [])
        # An endless difference by the facts alone, and an integer of it with one fact more.
        self.assertIs(holds(PROGRAM, Facts(["h", "p"]), ("main", 0, "h", "p", BIG)), False)
        checked_counter(self, PROGRAM, Facts(["h", "p"]), ("main", 0, "h", "p", BIG))
        self.assertIs(holds(PROGRAM, Facts(["h", "p"], [("h", "p", -BIG)]), ("main", 0, "h", "p", -BIG)), True)
        self.assertIs(holds(PROGRAM, Facts(["h", "p"], [("h", "p", -BIG)]), ("main", 0, "h", "p", -BIG - 1)), False)

    def test_random_programs(self):
        rng = random.Random(800)
        seen = {True: 0, False: 0}
        for _ in range(60):
            program = wide_program(rng)
            facts = wide_facts(rng, program)
            claims = some_claims(rng, program, facts, 8)
            expected = []
            for at, claim in enumerate(claims):
                told = far(program, facts, claim[:4])
                right = told is None or (told != "endless" and told <= claim[4])
                seen[right] += 1
                expected += [] if right else [at]
                self.assertIs(holds(program, facts, claim), right)
                if right:
                    self.assertIsNone(counter(program, facts, claim))
                else:
                    checked_counter(self, program, facts, claim)
            self.assertEqual(broken(program, facts, claims), expected)
            self.assertEqual(broken(program, facts, tuple(claims + claims)), expected + [8 + at for at in expected])
        self.assertTrue(min(seen.values()) > 100, seen)

    def test_a_way_more_or_a_fact_less_makes_no_claim_hold(self):
        rng = random.Random(801)
        for _ in range(40):
            program = wide_program(rng)
            facts = wide_facts(rng, program)
            claims = some_claims(rng, program, facts, 6)
            found = broken(program, facts, claims)
            name = rng.choice(program.names())
            size = program[name].size
            more = program.with_procedure(name, program[name].with_way((rng.randrange(size), rng.randrange(size), ("skip",))))
            fewer = Facts(facts.names(), facts.bounds()[1:])
            self.assertEqual([at for at in found if at not in broken(more, facts, claims)], [])
            self.assertEqual([at for at in found if at not in broken(program, fewer, claims)], [])

    def test_renamed(self):
        rng = random.Random(802)
        for _ in range(20):
            program = wide_program(rng)
            facts = wide_facts(rng, program)
            claims = some_claims(rng, program, facts, 6)
            other, others, within, names = renamed_all(program, facts, rng)
            new = [renamed_spot(claim, within, names) for claim in claims]
            self.assertEqual(broken(other, others, new), broken(program, facts, claims))
            for claim, one in zip(claims, new):
                self.assertIs(holds(other, others, one), holds(program, facts, claim))
                self.assertEqual(counter(other, others, one) is None, counter(program, facts, claim) is None)

    def test_by_turns_and_twice_and_what_is_handed_in(self):
        turns, down = turns_program(), down_program()
        loose, tight = Facts(["p", "q"]), Facts(["q", "p"], [("p", "q", 1), ("q", "p", 2), ("p", "", 0), ("", "p", 0)])
        claims = [spot + (3,) for spot in all_spots(turns)]
        others = [spot + (0,) for spot in all_spots(down)]
        expected = [broken(turns_program(), loose, claims), broken(turns_program(), tight, claims),
                    broken(down_program(), Facts(["a"]), others)]
        self.assertNotEqual(expected[0], expected[1])
        kept = copy.deepcopy([claims, others, loose.bounds(), tight.bounds()])
        for _ in range(2):
            found = [broken(turns, loose, claims), broken(turns, tight, claims), broken(down, Facts(["a"]), others)]
            self.assertEqual(found, expected)
            for told in found:
                told.append(9)
                told.reverse()
        self.assertEqual([claims, others, loose.bounds(), tight.bounds()], kept)
        self.assertEqual([turns, down], [turns_program(), down_program()])

    def test_what_counter_tells_is_its_callers(self):
        down, anything = down_program(), Facts(["a"])
        claim = ("main", 1, "b", "a", 10 ** 20)
        first = copy.deepcopy(counter(down, anything, claim))
        for _ in range(2):
            rows, start = counter(down, anything, claim)
            self.assertEqual((rows, start), first)
            rows.clear()
            start["a"] = start["b"] = 5
        checked_counter(self, down, anything, claim)

    def test_counter_against_plays(self):
        loop = loop_program()
        rows, start = counter(loop, FACTS, ("main", 1, "w", "r", 2))
        roads = Roads(loop, rows)
        name, place, numbers = played(loop, roads.written(len(rows) - 1), start)
        self.assertEqual([name, place, numbers["w"] - numbers["r"]], ["main", 1, 3])


if __name__ == "__main__":
    unittest.main()
