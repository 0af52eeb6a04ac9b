"""Promise [30]: statements."""

import copy
import unittest
from unittest.mock import ANY

from samples import deep, junk

from farapart.errors import NoEntry
from farapart.statements import frozen, is_statement, numbers, reads, sets, with_number

BIG = 10 ** 59

GOOD = [
    ("skip",),
    ("set", []),
    ("set", [("b", "a", 1)]),
    ("set", [("c", "b", -2), ("a", "", BIG), ("b", "b", 0)]),
    ("most", "a", [("b", 1)]),
    ("most", "b", [("b", 1), ("", -5), ("b", 2), ("abcdefgh", 0)]),
    ("least", "a", [("", 0)]),
    ("least", "c", [("z", 3), ("a", 3)]),
    ("call", "f", [], []),
    ("call", "proc", [("b", 1), ("", -BIG), ("b", 2), ("a", 0)], ["z", "b"]),
]
# Of each of GOOD: what it sets, reads, and its numbers.
TOLD = [
    ([], [], []),
    ([], [], []),
    (["b"], ["a"], [1]),
    (["a", "b", "c"], ["b"], [-2, BIG, 0]),
    (["a"], ["b"], [1]),
    (["b"], ["abcdefgh", "b"], [1, -5, 2, 0]),
    (["a"], [], [0]),
    (["c"], ["a", "z"], [3, 3]),
    ([], [], []),
    (["b", "z"], ["a", "b"], [1, -BIG, 2, 0]),
]

BAD_PARTS = [
    None, 1, True, "", "ab", {"a": 1}, {("a", 1)}, [None], [1], ["a"], [["a", 1]], [("a",)], [("a", 1, 1, 1)], [()],
    [("A", 1)], [("a", True)], [("a", None)], [("a", "1")], [(1, "a")], [("a1", 1)], [(None, 1)], [(["a"], 1)],
    [("abcdefghi", 1)], [("a", 1), None], [("a", 1), ("b", False)], deep(), [("a", [1])], [("a", 1)] * 3000 + [()],
]
BAD_SETTINGS = [
    None, 1, True, "", "abc", {"a": 1}, [None], [("a", 1)], [["a", "b", 1]], [("a", "b", True)], [("", "a", 1)],
    [("a", "B", 1)], [("A", "b", 1)], [("a", "b", 1, 1)], [("a", "b")], [("a", "b", None)], [(1, "b", 1)],
    [("a", None, 1)], [("a", "b", 1), ("a", "c", 2)], [("a", "b", 1), ("c", "b", 1), ("a", "b", 1)], [(("a",), "b", 1)],
    [("a", "b", 1)] * 3000, deep(), [("a", "b", 1), ["c", "b", 1]], [(["a"], "b", 1)],
]
BAD_NAMES = [None, 1, True, "", "A", "a1", "abcdefghi", ["a"], ("a",), b"a", deep()]
BAD_RESULTS = [
    None, 1, True, "", "a", "ab", {"a": 1}, {"a"}, [""], ["a", "a"], ["a", "b", "a"], ["A"], [None], [["a"]], [1],
    [("a", 1)], ["a", True], deep(), ["a"] * 5000,
]


def with_tuples(thing):
    return tuple(with_tuples(item) for item in thing) if isinstance(thing, (list, tuple)) else thing


class StatementsTest(unittest.TestCase):
    def test_is_statement_of_all_words_with_lists_and_tuples(self):
        for statement in GOOD:
            for thing in (statement, with_tuples(statement)):
                self.assertIs(is_statement(thing), True, thing)

    def test_one_part_more_or_less_or_another_word(self):
        for statement in GOOD:
            spoilt = [statement[:-1], statement + (1,), statement + ([],), list(statement), statement[1:],
                      (statement[0] + "s",) + statement[1:], (statement[0].upper(),) + statement[1:],
                      (None,) + statement[1:], ("",) + statement[1:], ((statement[0],),) + statement[1:],
                      ([statement[0]],) + statement[1:], (True,) + statement[1:], (statement,)]
            for thing in spoilt:
                self.assertIs(is_statement(thing), False, thing)

    def test_spoilt_parts(self):
        for parts in BAD_PARTS:
            for thing in (("most", "a", parts), ("least", "a", parts), ("call", "f", parts, [])):
                self.assertIs(is_statement(thing), False, parts)
        for parts in BAD_SETTINGS:
            self.assertIs(is_statement(("set", parts)), False, parts)
        for parts in ([], ()):
            self.assertIs(is_statement(("most", "a", parts)), False)
            self.assertIs(is_statement(("least", "a", parts)), False)

    def test_spoilt_names_and_results(self):
        for name in BAD_NAMES:
            for thing in (("most", name, [("a", 1)]), ("least", name, [("a", 1)]), ("call", name, [], [])):
                self.assertIs(is_statement(thing), False, name)
        for results in BAD_RESULTS:
            self.assertIs(is_statement(("call", "f", [], results)), False, results)

    def test_other_values(self):
        things = junk() + [(), ("skip", None), ("set",), ("most", "a"), "skip", ["skip"], ("call", "f", []), ("jump",),
                           ("most", [("a", 1)], "a"), ("set", [], []), {"skip": 1}, (deep(),), ("skip", deep()), (ANY,), (ANY, []), ANY]
        for thing in things:
            self.assertIs(is_statement(thing), False)

    def test_long_values(self):
        self.assertIs(is_statement(("most", "a", [("b", number) for number in range(3000)])), True)
        self.assertIs(is_statement(("call", "f", [("", 1)] * 3000, ())), True)

    def test_frozen(self):
        for statement in GOOD:
            self.assertEqual(frozen(statement), with_tuples(statement))
            self.assertEqual(frozen(frozen(statement)), with_tuples(statement))
        self.assertEqual(frozen(("set", [("b", "a", 1)])), ("set", (("b", "a", 1),)))

    def test_sets_reads_numbers(self):
        for statement, (some, others, integers) in zip(GOOD, TOLD):
            for thing in (statement, with_tuples(statement)):
                for _ in range(2):
                    self.assertEqual(sets(thing), some)
                    self.assertEqual(reads(thing), others)
                    self.assertEqual(numbers(thing), integers)

    def test_with_number_at_each_index(self):
        for statement, (_, _, integers) in zip(GOOD, TOLD):
            for at in range(len(integers)):
                for thing in (statement, with_tuples(statement)):
                    changed = with_number(thing, at, 77)
                    self.assertEqual(numbers(changed), integers[:at] + [77] + integers[at + 1:])
                    self.assertEqual(with_number(changed, at, integers[at]), with_tuples(statement))
        self.assertEqual(with_number(("set", [("c", "b", -2), ("a", "", 5)]), 1, -BIG),
                         ("set", (("c", "b", -2), ("a", "", -BIG))))
        self.assertEqual(with_number(("least", "c", [("z", 3), ("a", 3)]), 0, 4), ("least", "c", (("z", 4), ("a", 3))))
        self.assertEqual(with_number(("call", "f", [("a", 3)], ["b"]), 0, 4), ("call", "f", (("a", 4),), ("b",)))

    def test_no_entry(self):
        for statement, (_, _, integers) in zip(GOOD, TOLD):
            for at in (-1, len(integers), len(integers) + 1, -len(integers) - 1, BIG, -BIG):
                with self.assertRaises(NoEntry) as caught:
                    with_number(statement, at, 1)
                self.assertEqual(caught.exception.many, at)

    def test_what_is_passed_in_stays(self):
        for statement in GOOD:
            before = copy.deepcopy(statement)
            for call in (is_statement, frozen, sets, reads, numbers):
                self.assertEqual(call(statement), call(statement))
            if numbers(statement):
                self.assertEqual(with_number(statement, 0, 9), with_number(statement, 0, 9))
            self.assertEqual(statement, before)

    def test_what_is_returned_may_be_changed(self):
        statement = ("call", "f", [("a", 1)], ["b"])
        for _ in range(2):
            for call, told in ((sets, ["b"]), (reads, ["a"]), (numbers, [1])):
                found = call(statement)
                self.assertEqual(found, told)
                found.append(0)
        whole = frozen(statement)
        statement[2].append(("c", 1))
        self.assertEqual(whole, ("call", "f", (("a", 1),), ("b",)))


if __name__ == "__main__":
    unittest.main()
