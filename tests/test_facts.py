"""Promise [22]: facts."""

import copy
import itertools
import random
import unittest
from unittest.mock import ANY

from samples import deep, junk

from farapart.errors import NoName, NoStart, Unlike, Wrong
from farapart.facts import Facts

BOX = range(-7, 8)


def kept(facts, start):
    numbers = {**start, "": 0}
    return all(numbers[x] <= numbers[y] + c for x, y, c in facts)


def starts(names):
    for numbers in itertools.product(BOX, repeat=len(names)):
        yield dict(zip(names, numbers))


def random_facts(rng, names, many):
    sources = [""] + names
    return [(rng.choice(sources), rng.choice(sources), rng.randint(-1, 2)) for _ in range(many)]


def made(names, facts):
    try:
        return Facts(names, facts)
    except NoStart:
        return None


class FactsTest(unittest.TestCase):
    def raises(self, error, call, *given):
        with self.assertRaises(error) as caught:
            call(*given)
        self.assertIs(type(caught.exception), error)
        return caught.exception

    def test_the_example(self):
        facts = Facts(["r", "w"], [("w", "r", 2), ("r", "w", 0), ("r", "", 5)])
        self.assertEqual([facts.greatest("w", "r"), facts.greatest("w", ""), facts.greatest("", "w")], [2, 7, "endless"])
        self.assertEqual(facts.bounds(), [("r", "", 5), ("r", "w", 0), ("w", "", 7), ("w", "r", 2)])
        self.assertIs(facts.keeps({"r": 5, "w": 7}), True)
        self.assertIsNone(facts.start_with("r", "w", 1))

    def test_lists_and_tuples(self):
        rows = [("a", "b", 1), ("b", "", 2)]
        for names in (["b", "a"], ("a", "b")):
            for facts in (rows, tuple(rows)):
                self.assertEqual(Facts(names, facts), Facts(["a", "b"], rows))
                self.assertEqual(Facts(names, facts).names(), ["a", "b"])

    def test_wrong_names(self):
        spoilt = [["a", ""], ["a", "a"], ("b", "a", "b"), ["a", "B"], ["a", None], ["abcdefghi"], "a", "ab", {"a": 1},
                  {"a"}, None, 1, True, [["a"]], [("a",)], [True], deep()]
        for names in spoilt + [thing for thing in junk() if thing != ("a",)]:
            self.assertEqual(self.raises(Wrong, Facts, names).place, 0)
            self.assertEqual(self.raises(Wrong, Facts, names, 1).place, 0)
            self.assertEqual(self.raises(Wrong, Facts, names, [("q", "", 1)]).place, 0)
            self.assertEqual(self.raises(Wrong, Facts, names, [("", "", -1)]).place, 0)

    def test_wrong_facts(self):
        good = ("a", "", 1)
        rows = [["a", "", 1], ("a", ""), ("a", "", 1, 1), ("a", "", True), ("a", "", None), ("a", "", "1"),
                ("A", "", 1), ("a", "A", 1), (None, "", 1), ("a", 0, 1), (["a"], "", 1), ("a", {}, 1), (), None, "a",
                deep(), ("a", "", [1])]
        for row in rows:
            for facts in ([row], (row,), [good, row], [row, good], [("q", "", 1), row], [("", "", -1), row]):
                self.assertEqual(self.raises(Wrong, Facts, ["a"], facts).place, 1)
        for facts in [None, 1, True, "", "a", {}, {good: 1}, {good}, good, b"", object(), iter([good])]:
            self.assertEqual(self.raises(Wrong, Facts, ["a"], facts).place, 1)

    def test_no_name_of_both_sources_in_order(self):
        none = ("", "", -1)
        self.assertEqual(self.raises(NoName, Facts, ["a"], [("x", "y", 1)]).name, "x")
        self.assertEqual(self.raises(NoName, Facts, ["a"], [("a", "y", 1), ("x", "a", 1)]).name, "y")
        self.assertEqual(self.raises(NoName, Facts, ["a"], [none, ("", "y", 1), ("x", "", 1)]).name, "y")
        self.assertEqual(self.raises(NoName, Facts, [], [("", "", -1), ("a", "a", 1)]).name, "a")

    def test_no_start(self):
        for rows in ([("", "", -1)], [("a", "a", -1)], [("a", "b", 1), ("b", "a", -2)],
                     [("a", "", 3), ("", "b", -10), ("b", "a", 6)],
                     [("a", "b", 10 ** 39), ("b", "a", -10 ** 39 - 1)]):
            self.raises(NoStart, Facts, ["a", "b"], rows)

    def test_round_to_just_nought(self):
        facts = Facts(["a", "b"], [("a", "b", 1), ("b", "a", -1), ("a", "a", 0), ("", "", 0)])
        self.assertEqual(facts.bounds(), [("a", "b", 1), ("b", "a", -1)])
        facts = Facts(["a", "b"], [("a", "", 3), ("", "b", -9), ("b", "a", 6)])
        self.assertEqual(facts.bounds(), [("", "a", -3), ("", "b", -9), ("a", "", 3), ("a", "b", -6),
                                          ("b", "", 9), ("b", "a", 6)])
        self.assertIs(facts.keeps({"a": 3, "b": 9}), True)
        self.assertEqual(facts.start_with("a", "b", -6), {"a": 3, "b": 9})

    def test_no_names_and_no_facts(self):
        nothing = Facts([])
        self.assertEqual([nothing.names(), nothing.bounds(), nothing.greatest("", "")], [[], [], 0])
        self.assertIs(nothing.keeps({}), True)
        self.assertIs(nothing.keeps({"a": 1}), False)
        self.assertEqual(nothing.start_with("", "", 0), {})
        self.assertIsNone(nothing.start_with("", "", 1))
        free = Facts(("b", "a"))
        self.assertEqual([free.names(), free.bounds()], [["a", "b"], []])
        self.assertEqual([free.greatest(x, y) for x in ["", "a"] for y in ["", "b"]], [0] + ["endless"] * 3)
        self.assertEqual(Facts([], ()), nothing)
        self.assertIs(nothing.keeps([]), False)

    def test_numbers_of_forty_digits(self):
        big = 10 ** 40 + 7
        facts = Facts(["a", "b"], [("a", "b", big), ("b", "", -3 * big)])
        self.assertEqual(facts.bounds(), [("a", "", -2 * big), ("a", "b", big), ("b", "", -3 * big)])
        start = facts.start_with("a", "b", big)
        self.assertEqual(start["a"] - start["b"], big)
        self.assertTrue(start["b"] <= -3 * big)
        self.assertIsNone(facts.start_with("a", "b", big + 1))
        start = facts.start_with("", "a", 10 ** 59)
        self.assertTrue(-start["a"] >= 10 ** 59 and facts.keeps(start))

    def test_greatest_bounds_and_starts_against_all_small_starts(self):
        rng = random.Random(22)
        for turn in range(150):
            names = ["c", "a", "b"][:rng.choice([1, 2, 2, 3])]
            rows = random_facts(rng, names, rng.randint(0, 6))
            small = [start for start in starts(names) if kept(rows, start)]
            facts = made(names, rows)
            self.assertEqual(facts is None, small == [], rows)
            if facts is not None:
                self.check_against(facts, names, rows, small)

    def check_against(self, facts, names, rows, small):
        sources = [""] + sorted(names)
        for x, y in itertools.product(sources, repeat=2):
            most = facts.greatest(x, y)
            apart = [{**start, "": 0}[x] - {**start, "": 0}[y] for start in small]
            asked = max(apart) + 1000 if most == "endless" else most
            start = facts.start_with(x, y, asked)
            self.assertEqual(list(start), sorted(names))
            self.assertTrue(kept(rows, start))
            self.assertTrue({**start, "": 0}[x] - {**start, "": 0}[y] >= asked)
            if most != "endless":
                self.assertTrue(max(apart) <= most)
                self.assertIsNone(facts.start_with(x, y, most + 1))
        expected = [(x, y, facts.greatest(x, y)) for x in sources for y in sources if x != y]
        self.assertEqual(facts.bounds(), [row for row in expected if row[2] != "endless"])
        for start in itertools.islice(starts(names), 0, None, 7):
            self.assertIs(facts.keeps(start), kept(rows, start))
        self.assertEqual(Facts(names, facts.bounds()), facts)

    def test_keeps_takes_any_value(self):
        facts = Facts(["a", "b"], [("a", "b", 0)])
        self.assertIs(facts.keeps({"b": 2, "a": 2}), True)
        self.assertIs(facts.keeps({"a": 3, "b": 2}), False)
        for thing in junk() + [{}, {"a": 1}, {"a": 1, "b": 2, "c": 3}, {"a": 1, "c": 2}, {"a": 1, "b": True},
                               {"a": False, "b": 2}, {"a": 1, "b": None}, {"a": "", "b": 2}, {"a": 1, "": 2},
                               {"a": 1, "b": 2, "": 0}, [("a", 1), ("b", 2)], ("a", "b"), {1: 1, 2: 2}, {("a",): 1, "b": 1}]:
            self.assertIs(facts.keeps(thing), False)

    def test_with_fact(self):
        facts = Facts(["a", "b"], [("a", "b", 3)])
        more = facts.with_fact("b", "", 4)
        self.assertEqual(more.bounds(), [("a", "", 7), ("a", "b", 3), ("b", "", 4)])
        self.assertEqual(facts.bounds(), [("a", "b", 3)])
        self.assertEqual(facts.with_fact("a", "b", 5), facts)
        self.assertEqual(facts.with_fact("a", "a", 0), facts)
        self.raises(NoStart, facts.with_fact, "b", "a", -4)
        self.raises(NoStart, facts.with_fact, "a", "a", -1)
        self.assertEqual(facts.with_fact("b", "a", -3).bounds(), [("a", "b", 3), ("b", "a", -3)])
        self.assertIsInstance(more, Facts)

    def test_no_name_comes_first(self):
        facts = Facts(["a", "b"], [("a", "b", 3)])
        for call, more in ((facts.greatest, ()), (facts.start_with, (10,)), (facts.with_fact, (-10,))):
            self.assertEqual(self.raises(NoName, call, "x", "y", *more).name, "x")
            self.assertEqual(self.raises(NoName, call, "a", "y", *more).name, "y")
            self.assertEqual(self.raises(NoName, call, "", "y", *more).name, "y")
            self.assertEqual(self.raises(NoName, call, "x", "x", *more).name, "x")
        self.assertEqual(self.raises(NoName, facts.start_with, "x", "x", 1).name, "x")

    def test_and(self):
        one = Facts(["a", "b"], [("a", "b", 3)])
        other = Facts(("b", "a"), [("b", "", 1), ("a", "b", 4)])
        self.assertEqual((one & other).bounds(), [("a", "", 4), ("a", "b", 3), ("b", "", 1)])
        self.assertEqual(one & other, other & one)
        self.assertEqual([one.bounds(), other.bounds()[:1]], [[("a", "b", 3)], [("a", "", 5)]])
        self.raises(NoStart, lambda: one & Facts(["a", "b"], [("b", "a", -4)]))
        self.raises(Unlike, lambda: one & Facts(["a"]))
        self.raises(Unlike, lambda: Facts(["a", "c"]) & one)
        self.raises(Unlike, lambda: Facts([]) & one)

    def test_within(self):
        one = Facts(["a", "b"], [("a", "b", 3), ("b", "", 0)])
        self.assertIs(one.within(one), True)
        self.assertIs(one.within(Facts(["b", "a"])), True)
        self.assertIs(Facts(["b", "a"]).within(one), False)
        self.assertIs(one.within(Facts(["a", "b"], [("a", "", 3)])), True)
        self.assertIs(one.within(Facts(["a", "b"], [("a", "", 2)])), False)
        self.assertIs(one.within(Facts(["a", "b"], [("", "a", 2)])), False)
        self.assertIs(Facts(["a", "b"], [("a", "b", 2), ("b", "", 0)]).within(one), True)
        self.raises(Unlike, one.within, Facts(["a"]))
        self.raises(Unlike, Facts([]).within, one)

    def test_and_within_equal_against_all_small_starts(self):
        rng = random.Random(23)
        names = ["a", "b"]
        pairs = [(random_facts(rng, names, 3), random_facts(rng, names, 2)) for _ in range(200)]
        for rows, others in pairs:
            one, other = made(names, rows), made(names, others)
            if one is None or other is None:
                continue
            mine = [start for start in starts(names) if kept(rows, start)]
            theirs = [start for start in starts(names) if kept(others, start)]
            self.assertIs(one.within(other), all(start in theirs for start in mine))
            self.assertIs(one == other, mine == theirs)
            self.assertIs(one != other, mine != theirs)
            both = [start for start in mine if start in theirs]
            if both:
                self.assertEqual([start for start in starts(names) if (one & other).keeps(start)], both)
            else:
                self.raises(NoStart, lambda: one & other)

    def test_equal(self):
        one = Facts(["a", "b"], [("a", "b", 1), ("b", "", 2)])
        self.assertIs(one == Facts(("b", "a"), (("b", "", 2), ("a", "", 3), ("a", "b", 1), ("a", "b", 9))), True)
        self.assertIs(one == Facts(["a", "b"], [("a", "b", 1), ("b", "", 3)]), False)
        self.assertIs(one == Facts(["a", "b", "c"], [("a", "b", 1), ("b", "", 2)]), False)
        self.assertIs(Facts(["a"]) == Facts(["b"]), False)
        for thing in junk() + [one.bounds(), ["a", "b"], ANY]:
            self.assertIs(one == thing, False)
            self.assertIs(one != thing, True)

    def test_what_is_passed_in_stays_and_may_be_changed_behind(self):
        names, rows = ["b", "a"], [("a", "b", 1)]
        facts = Facts(names, rows)
        self.assertEqual([names, rows], [["b", "a"], [("a", "b", 1)]])
        start = {"b": 1, "a": 1}
        shown = copy.deepcopy(start)
        self.assertIs(facts.keeps(start), True)
        self.assertEqual(list(start.items()), list(shown.items()))
        names.append("c")
        rows.append(("b", "a", -9))
        rows[0] = ("a", "b", 0)
        self.assertEqual([facts.names(), facts.bounds()], [["a", "b"], [("a", "b", 1)]])

    def test_what_is_returned_may_be_changed(self):
        facts = Facts(["a", "b"], [("a", "b", 1)])
        for _ in range(2):
            names, bounds, start = facts.names(), facts.bounds(), facts.start_with("a", "b", 0)
            self.assertEqual([names, bounds, facts.keeps(start)], [["a", "b"], [("a", "b", 1)], True])
            names.clear()
            bounds.clear()
            start.clear()

    def test_many_names(self):
        names = [x + y + z for x in "abcdefghij" for y in "abcdefghij" for z in "abcdefghij"]
        facts = Facts(names, [(name, "", 1) for name in names])
        self.assertEqual(len(facts.bounds()), 1000)
        self.assertEqual(len(facts.names()), 1000)


if __name__ == "__main__":
    unittest.main()
