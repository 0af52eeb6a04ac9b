"""Promise [21]: kinds."""

import unittest
from unittest.mock import ANY

from samples import junk

from farapart.errors import NoName
from farapart.kinds import fits, is_integer, is_kind, is_name, is_source

NAMES = ["a", "z", "az", "abcdefg", "abcdefgh", "plain", "high", "low", "skip"]
NO_NAMES = ["abcdefghi", "A", "aB", "a1", "1", "a_", "_", "a b", " a", "a ", "a\n", "\n", "-", "~", "`", "{", "a" * 9000]
NO_STRINGS = [None, b"a", ["a"], ("a",), {"a": "a"}, {"a"}, 0, 1, True, False, object(), str, len, NoName("a"), ANY]


class KindsTest(unittest.TestCase):
    def test_is_integer(self):
        for thing in [0, 1, -1, 2, 10 ** 60, -10 ** 60]:
            self.assertIs(is_integer(thing), True)
        for thing in [True, False, None, "", "1", b"1", [], [1], (1,), {}, {1}, 1j, int, object()]:
            self.assertIs(is_integer(thing), False)

    def test_is_name(self):
        for thing in NAMES:
            self.assertIs(is_name(thing), True, thing)
        for thing in NO_NAMES + NO_STRINGS + [""]:
            self.assertIs(is_name(thing), False, thing)
        for letter in [chr(number) for number in range(32, 127)]:
            self.assertIs(is_name(letter), "a" <= letter <= "z", letter)

    def test_is_source(self):
        for thing in NAMES + [""]:
            self.assertIs(is_source(thing), True, thing)
        for thing in NO_NAMES + NO_STRINGS + [[], (), {}, b""]:
            self.assertIs(is_source(thing), False, thing)

    def test_is_kind(self):
        for thing in ["plain", "high", "low"]:
            self.assertIs(is_kind(thing), True)
        for thing in ["", "p", "Plain", "PLAIN", "plain ", "highlow", "l"] + NO_STRINGS + NO_NAMES:
            self.assertIs(is_kind(thing), False, thing)
        self.assertIs(is_kind(("plain", "high", "low")), False)

    def test_values_of_all_kinds_give_truths(self):
        for asked in (is_integer, is_name, is_source, is_kind):
            for thing in junk():
                self.assertIn(asked(thing), (True, False))
                self.assertIsInstance(asked(thing), bool)

    def test_fits(self):
        held = {("plain", "plain"), ("plain", "high"), ("plain", "low"), ("high", "high"), ("low", "low")}
        for part in ("plain", "high", "low"):
            for kind in ("plain", "high", "low"):
                self.assertIs(fits(part, kind), (part, kind) in held)


if __name__ == "__main__":
    unittest.main()
