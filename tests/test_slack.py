"""Promise [82] and the guarantees [9] and [11]: slack."""

import copy
import random
import unittest

from oracle import all_spots, renamed_all, renamed_spot, wide_facts, wide_program
from samples import down_program, loop_program, turns_program
from test_reasons import doubling

from farapart.claims import broken
from farapart.errors import NoEntry, NoName, NoProc, NotFar, NoWay, Unlike
from farapart.facts import Facts
from farapart.far import far
from farapart.procedures import Procedure
from farapart.programs import Program
from farapart.slack import slack
from farapart.statements import numbers

FACTS = Facts(["r", "w"], [("w", "r", 2), ("r", "w", 0), ("r", "", 5)])
BIG = 10 ** 39 + 7
X = {"x": "plain"}


def one(kinds, params, size, *ways):
    return Program({"main": Procedure(kinds, params, [], size, ways)}, "main")


def integers_of(program, name):
    """All (name, index, at) of the integers of a procedure."""
    return [(name, index, at) for index, way in enumerate(program[name].ways()) for at in range(len(numbers(way[2])))]


def is_right(program, facts, claims, way, d):
    name, index, at = way
    number = numbers(program[name].way(index)[2])[at]
    return broken(program.with_number(name, index, at, number + d), facts, claims) == []


def common(one, other):
    """The stretch that two stretches have in common."""
    if one is None or other is None:
        return None
    lows = [end for end in (one[0], other[0]) if end != "endless"]
    highs = [end for end in (one[1], other[1]) if end != "endless"]
    if lows and highs and max(lows) > min(highs):
        return None
    return (max(lows, default="endless"), min(highs, default="endless"))


class SlackTest(unittest.TestCase):
    def raises(self, error, call, *given):
        with self.assertRaises(error) as caught:
            call(*given)
        self.assertIs(type(caught.exception), error)
        return caught.exception

    def check(self, program, facts, claims, way):
        """That just with d from the one end to the other all claims hold."""
        found = slack(program, facts, claims, *way)
        if found is None:
            for d in list(range(-6, 7)) + [-BIG, BIG, -BIG ** 5, BIG ** 5]:
                self.assertFalse(is_right(program, facts, claims, way, d), (claims, way, d))
            return None
        self.assertIsInstance(found, tuple)
        low, high = found
        for end, other, sign in ((low, high, -1), (high, low, 1)):
            if end == "endless":
                near = 0 if other == "endless" else other
                rights, wrongs = [near + sign * d for d in (0, 1, 1000, BIG, BIG ** 5)], []
            else:
                rights, wrongs = [end], [end + sign, end + sign * BIG, end + sign * BIG ** 5]
            for d in rights:
                self.assertTrue(is_right(program, facts, claims, way, d), (claims, way, d))
            for d in wrongs:
                self.assertFalse(is_right(program, facts, claims, way, d), (claims, way, d))
        if "endless" not in found:
            self.assertLessEqual(low, high)
            self.assertTrue(is_right(program, facts, claims, way, (low + high) // 2))
        return found

    def told(self, program, facts, claims, way, expected):
        self.assertEqual(self.check(program, facts, claims, way), expected, (claims, way))

    def test_the_example(self):
        loop = loop_program()
        self.assertEqual([slack(loop, FACTS, [("main", 1, "w", "r", 5)], "main", 0, 0),
                          slack(loop, FACTS, [("main", 1, "w", "r", 1)], "main", 1, 0)], [("endless", 0), None])

    def test_random_programs(self):
        rng = random.Random(820)
        seen = {"none": 0, "both": 0, "low": 0, "high": 0, "neither": 0}
        tried = 0
        while tried < 120:
            program = wide_program(rng)
            facts = wide_facts(rng, program)
            ways = [way for name in program.reached() for way in integers_of(program, name)]
            if not ways:
                continue
            name, index, at = rng.choice(ways)
            number = numbers(program[name].way(index)[2])[at]
            turned = [program.with_number(name, index, at, number + d) for d in (0, 5, -5, BIG)]
            told = {spot: [far(some, facts, spot) for some in turned] for spot in all_spots(program)}
            moved = [spot for spot in told if len(set(told[spot])) > 1]
            if not moved:
                continue
            tried += 1
            claims = []
            for spot in rng.choices(moved, k=rng.randint(1, 3)):
                value = rng.choice([value for value in told[spot] if value != "endless"])
                claims.append(spot + (value + rng.choice([-1, 0, 0, 2]),))
            found = self.check(program, facts, claims, (name, index, at))
            if found is None:
                seen["none"] += 1
            else:
                seen[{(False, False): "neither", (True, True): "both", (True, False): "low", (False, True): "high"}[
                    found[0] != "endless", found[1] != "endless"]] += 1
        seen.pop("neither")
        self.assertTrue(min(seen.values()) > 5, seen)

    def test_plain_ways(self):
        free = Facts(["x"], [("x", "", 0), ("", "x", 0)])
        for number in (0, 3, -BIG):
            program = one(X, ["x"], 2, (0, 1, ("set", [("x", "x", number)])))
            self.told(program, free, [("main", 1, "x", "", 7)], ("main", 0, 0), ("endless", 7 - number))
            self.told(program, free, [("main", 1, "", "x", 7)], ("main", 0, 0), (-7 - number, "endless"))
            self.told(program, free, [("main", 1, "", "x", 7), ("main", 1, "x", "", -7)], ("main", 0, 0), (-7 - number,) * 2)
            self.told(program, free, [("main", 1, "", "x", 7), ("main", 1, "x", "", -8)], ("main", 0, 0), None)
            self.told(program, free, [("main", 1, "x", "x", 0)], ("main", 0, 0), ("endless", "endless"))
            self.told(program, free, [("main", 1, "x", "x", -1)], ("main", 0, 0), None)
            self.told(program, free, [("main", 0, "x", "", 0)], ("main", 0, 0), ("endless", "endless"))
            self.told(program, free, [("main", 0, "x", "", -1)], ("main", 0, 0), None)
            self.told(program, Facts(["x"]), [("main", 1, "x", "", BIG)], ("main", 0, 0), None)
            self.told(program, Facts(["x"], [("x", "", BIG)]), [("main", 1, "x", "", BIG)], ("main", 0, 0), ("endless", -number))
            for claims in ([], [("main", 1, "x", "", BIG)][:0], ()):
                self.told(program, free, claims, ("main", 0, 0), ("endless", "endless"))

    def test_never_come_to(self):
        program = Program({"main": Procedure(X, ["x"], [], 3, [(0, 1, ("set", [("x", "x", 1)]))]),
                           "f": Procedure(X, ["x"], [], 1, [(0, 0, ("set", [("x", "x", 1)]))])}, "main")
        for claims in ([("main", 2, "x", "", -BIG)], [("f", 0, "x", "x", -1)], [("f", 0, "x", "", 0), ("main", 2, "", "", -1)]):
            for way in (("main", 0, 0), ("f", 0, 0)):
                self.told(program, Facts(["x"]), claims, way, ("endless", "endless"))
        some = Facts(["x"], [("x", "", 4)])
        self.told(program, some, [("main", 1, "x", "", 5)], ("f", 0, 0), ("endless", "endless"))
        self.told(program, some, [("main", 1, "x", "", 4)], ("f", 0, 0), None)

    def test_rings(self):
        kinds = {"x": "plain", "y": "plain"}
        some = Facts(["x"], [("x", "", 0), ("", "x", 0)])
        for number in (0, 2, BIG):
            up = (0, 0, ("set", [("x", "x", number)]))
            self.told(one(X, ["x"], 1, up), some, [("main", 0, "x", "", 50)], ("main", 0, 0), ("endless", -number))
            self.told(one(X, ["x"], 1, up), some, [("main", 0, "", "x", 50)], ("main", 0, 0), (-number, "endless"))
            # Only one d is right, as the ring gains with each other one.
            both = [("main", 0, "x", "", 50), ("main", 0, "", "x", 50)]
            self.told(one(X, ["x"], 1, up), some, both, ("main", 0, 0), (-number, -number))
            self.told(one(X, ["x"], 1, up), some, both + [("main", 0, "x", "", -1)], ("main", 0, 0), None)
            # A ring of three ways that turns two names about.
            three = [(0, 1, ("set", [("x", "y", number), ("y", "x", 1)])), (1, 2, ("set", [("x", "y", -5), ("y", "x", 2)])),
                     (2, 0, ("skip",))]
            self.told(one(kinds, ["x"], 3, *three), some, [("main", 0, "y", "", 50)], ("main", 0, 0), ("endless", -2 - number))
            self.told(one(kinds, ["x"], 3, *three), some, [("main", 0, "x", "", 50)], ("main", 0, 0), ("endless", "endless"))
            for way in integers_of(one(kinds, ["x"], 3, *three), "main"):
                self.check(one(kinds, ["x"], 3, *three), some, [("main", 0, "x", "", 50)], way)
        # Two rings, one of which d does not count in; and one behind a way in which d counts.
        other = (0, 0, ("set", [("x", "x", 1)]))
        for index in (0, 1):
            program = one(X, ["x"], 1, *([(0, 0, ("set", [("x", "x", -3)])), other][::1 - 2 * index]))
            self.told(program, some, [("main", 0, "x", "", 50)], ("main", index, 0), None)
            self.told(program, some, [("main", 0, "", "x", 50)], ("main", index, 0), (3, "endless"))
        program = one(X, ["x"], 2, (0, 1, ("set", [("x", "x", 5)])), (1, 1, ("set", [("x", "x", 1)])))
        self.told(program, some, [("main", 1, "x", "", 50)], ("main", 0, 0), None)
        self.told(program, some, [("main", 1, "x", "", 50)], ("main", 1, 0), ("endless", -1))
        self.told(program, some, [("main", 1, "", "x", 50)], ("main", 0, 0), (-55, "endless"))

    def test_calls(self):
        some = Facts(["x"], [("x", "", 0), ("", "x", 0)])
        main = Procedure(X, ["x"], [], 2, [(0, 1, ("call", "f", [("x", 4)], ["x"]))])
        f = Procedure(X, ["x"], ["x"], 2, [(0, 1, ("set", [("x", "x", 10)])), (0, 1, ("call", "f", [("x", -6)], ["x"])),
                                           (0, 1, ("skip",))])
        program = Program({"main": main, "f": f}, "main")
        claim = [("main", 1, "x", "", 30)]
        self.told(program, some, claim, ("main", 0, 0), ("endless", 16))
        self.told(program, some, claim, ("f", 0, 0), ("endless", 16))
        self.told(program, some, claim, ("f", 1, 0), ("endless", 6))
        self.told(program, some, [("f", 0, "x", "", 4)], ("f", 1, 0), ("endless", 6))
        self.told(program, some, [("f", 0, "", "x", 4)], ("f", 1, 0), (6, "endless"))
        self.told(program, some, [("f", 0, "", "x", -4), ("f", 0, "x", "", 4)], ("f", 1, 0), (6, 6))
        self.told(program, some, [("f", 0, "", "x", -4), ("f", 0, "x", "", 3)], ("f", 1, 0), None)
        self.told(program, some, claim + [("main", 1, "", "x", -14)], ("f", 1, 0), None)
        # By two that call one another, in the argument and behind the call.
        f = Procedure(X, ["x"], ["x"], 3, [(0, 1, ("call", "g", [("x", 2)], ["x"])), (1, 2, ("set", [("x", "x", -5)])),
                                           (0, 2, ("skip",))])
        g = Procedure(X, ["x"], ["x"], 2, [(0, 1, ("call", "f", [("x", 1)], ["x"]))])
        program = Program({"main": main, "f": f, "g": g}, "main")
        for way in (("f", 0, 0), ("f", 1, 0), ("g", 0, 0)):
            self.told(program, some, [("main", 1, "x", "", 4)], way, ("endless", 2))
            self.told(program, some, [("main", 1, "x", "", 3)], way, None)
            self.told(program, some, [("main", 1, "x", "", 4), ("main", 1, "", "x", 100)], way, (2, 2))

    def test_an_integer_that_counts_several_times(self):
        program = doubling()
        some = Facts(["x"], [("x", "", 0), ("", "x", 0)])
        told = far(program, some, ("main", 3, "x", ""))
        for more, high in [(0, 0), (1, 0), (8, 0), (9, 1), (26, 2), (27, 3), (BIG * 9, BIG)]:
            self.told(program, some, [("main", 3, "x", "", told + more)], ("g", 0, 0), ("endless", high))
        # With -1 from the other way, whatever is taken away does not make the difference less than that with it.
        for less in range(1, 18):
            self.told(program, some, [("main", 3, "x", "", told - less)], ("g", 0, 0), ("endless", -((less + 8) // 9)))
        self.told(program, some, [("main", 3, "x", "", told - 19)], ("g", 0, 0), None)
        self.told(program, some, [("main", 3, "", "x", BIG)], ("g", 0, 0), ((4 - BIG) // 9 - 1, "endless"))

    def test_mosts_and_leasts(self):
        kinds = {"h": "high", "l": "low", "p": "plain"}
        program = one(kinds, ["p"], 3, (0, 1, ("most", "h", [("p", 3), ("", 5)])), (1, 2, ("least", "l", [("p", 3), ("", 5)])),
                      (2, 2, ("most", "h", [("h", -1), ("p", 9)])))
        some = Facts(["p"], [("p", "", 4), ("", "p", 4)])
        for claim, way, found in [
                (("main", 1, "h", "", 9), ("main", 0, 0), ("endless", 2)), (("main", 1, "h", "", 9), ("main", 0, 1), ("endless", 4)),
                (("main", 1, "h", "", 6), ("main", 0, 1), None), (("main", 1, "h", "p", 9), ("main", 0, 1), ("endless", 0)),
                (("main", 1, "h", "p", 8), ("main", 0, 0), None), (("main", 2, "", "l", 9), ("main", 1, 0), (-8, "endless")),
                (("main", 2, "p", "l", -1), ("main", 1, 0), (-2, "endless")), (("main", 2, "p", "l", -2), ("main", 1, 1), (1, "endless")),
                (("main", 2, "p", "l", -4), ("main", 1, 1), None),
                (("main", 2, "h", "l", 10), ("main", 2, 0), None), (("main", 2, "h", "", 13), ("main", 2, 0), ("endless", 1)),
                (("main", 2, "h", "l", 14), ("main", 0, 0), ("endless", "endless"))]:
            self.check(program, some, [claim], way)
            if claim[:4] != ("main", 2, "h", "l"):
                self.told(program, some, [claim], way, found)

    def test_several_claims_are_what_each_lets(self):
        rng = random.Random(821)
        seen = 0
        for _ in range(60):
            program = wide_program(rng, most=2)
            facts = wide_facts(rng, program)
            ways = [way for name in program.reached() for way in integers_of(program, name)]
            spots = [spot for spot in all_spots(program) if far(program, facts, spot) != "endless"]
            if not ways or not spots:
                continue
            way = rng.choice(ways)
            claims = [spot + ((far(program, facts, spot) or 0) + rng.randint(0, 9),) for spot in rng.choices(spots, k=4)]
            expected = ("endless", "endless")
            for claim in claims:
                expected = common(expected, slack(program, facts, [claim], *way))
            for some in (claims, claims[::-1], claims + claims):
                self.assertEqual(slack(program, facts, some, *way), expected)
            seen += expected != ("endless", "endless")
        self.assertTrue(seen > 10, seen)

    def test_all_integers_of_a_program(self):
        rng = random.Random(823)
        for program, facts in [(turns_program(), Facts(["p", "q"], [("p", "q", 1), ("q", "p", 2)])),
                               (down_program(), Facts(["a"], [("a", "", 3)])), (loop_program(), FACTS)]:
            for name in program.names():
                for way in integers_of(program, name):
                    for spot in rng.sample(all_spots(program), 3):
                        told = far(program, facts, spot)
                        self.check(program, facts, [spot + (told if isinstance(told, int) else 3,)], way)

    def test_errors_in_their_order(self):
        program = one({"h": "high", "p": "plain"}, ["p"], 2, (0, 1, ("set", [("h", "p", 1), ("p", "", 2)])), (0, 1, ("skip",)))
        facts, right = Facts(["p"]), [("main", 1, "h", "p", 3)]
        for wrong, way, error, field, thing in [
                (right, ("x", 9, 9), NoProc, "name", "x"), (right, ("main", 2, 9), NoWay, "index", 2),
                (right, ("main", -1, 9), NoWay, "index", -1), (right, ("main", 0, 2), NoEntry, "many", 2),
                (right, ("main", 0, -1), NoEntry, "many", -1), (right, ("main", 1, 0), NoEntry, "many", 0), ([], ("x", 0, 0), NoProc, "name", "x"),
                ([("x", 9, "z", "z", 0)], ("y", 9, 9), NoProc, "name", "x"), (right + [("main", 1, "p", "h", 0)], ("y", 9, 9), NotFar, "name", "h"),
                ([("main", 0, "p", "z", 0), ("x", 0, "", "", 0)], ("main", 9, 9), NoName, "name", "z")]:
            self.assertEqual(getattr(self.raises(error, slack, program, facts, wrong, *way), field), thing)
            self.raises(Unlike, slack, program, Facts(["h"]), wrong, *way)
        # Ahead of what makes it plain that there is no d.
        self.assertIsNone(slack(program, facts, [("main", 1, "h", "", BIG)], "main", 0, 0))
        self.raises(NoEntry, slack, program, facts, [("main", 1, "h", "", BIG)], "main", 1, 0)

    def test_renamed(self):
        rng = random.Random(822)
        for _ in range(25):
            program = wide_program(rng)
            facts = wide_facts(rng, program)
            ways = [way for name in program.names() for way in integers_of(program, name)]
            other, others, within, names = renamed_all(program, facts, rng)
            claims = [spot + (4,) for spot in rng.choices(all_spots(program), k=2)]
            for name, index, at in ways[:3]:
                self.assertEqual(slack(program, facts, claims, name, index, at),
                                 slack(other, others, [renamed_spot(claim, within, names) for claim in claims], names[name], index, at))

    def test_by_turns_and_twice_and_what_is_handed_in(self):
        turns, loop = turns_program(), loop_program()
        bound, tight = Facts(["p", "q"], [("p", "q", 1), ("q", "p", 2)]), Facts(["p", "q"], [("p", "q", 0), ("q", "p", 0)])
        claims, others = [("even", 2, "p", "q", 4), ("even", 2, "q", "p", 7)], [("main", 1, "w", "r", 5)]
        kept = copy.deepcopy([claims, others])
        expected = [slack(turns_program(), bound, claims, "even", 2, 0), slack(turns_program(), tight, claims, "even", 2, 0),
                    slack(loop_program(), FACTS, others, "main", 0, 0)]
        for _ in range(2):
            found = [slack(turns, bound, claims, "even", 2, 0), slack(turns, tight, claims, "even", 2, 0),
                     slack(loop, FACTS, others, "main", 0, 0)]
            self.assertEqual(found, expected)
        self.assertEqual([claims, others], kept)
        self.assertEqual([turns, loop], [turns_program(), loop_program()])


if __name__ == "__main__":
    unittest.main()
