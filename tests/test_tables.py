"""Promise [62] and the guarantee [6]: tables."""

import copy
import random
import unittest
from unittest.mock import ANY

from oracle import greater, is_closed, short_inner, short_outer, what_is_wanted, wide_facts, wide_program
from samples import deep, down_program, junk, loop_program, turns_program

from farapart.far import far, known
from farapart.inner import Inner
from farapart.outer import Outer
from farapart.procedures import Procedure
from farapart.programs import Program
from farapart.tables import is_table, loosest, table


def programs(many, seed):
    rng = random.Random(seed)
    return [loop_program(), down_program(), turns_program()] + [wide_program(rng) for _ in range(many)]


def closed_again(program, inner, outer):
    """The least closed table, or one that is not far from it, that tells at least what these rows tell."""
    for turn in range(40):
        rows = {"inner": {row[:6]: row[6] for row in inner}, "outer": {row[:6]: row[6] for row in outer}}
        changed = False
        for which, key, value in list(what_is_wanted(program, inner, outer)):
            if key not in rows[which] or greater(value, rows[which][key]):
                rows[which][key] = "endless" if turn > 8 else value
                changed = True
        inner, outer = [[key + (value,) for key, value in rows[which].items()] for which in ("inner", "outer")]
        if not changed:
            return inner, outer
    raise AssertionError("not closed")


def at_place(row, place, item):
    return row[:place] + (item,) + row[place + 1:]


class TablesTest(unittest.TestCase):
    def test_the_example(self):
        loop = loop_program()
        inner, outer = table(loop)
        self.assertEqual([is_table(loop, inner, outer), is_table(loop, inner, outer[1:])], [True, False])

    def test_the_table_of_a_program(self):
        for program in programs(60, 620):
            told = table(program)
            self.assertIsInstance(told, tuple)
            inner, outer = told
            self.assertEqual([inner, outer], [Inner(program).rows(), Outer(program).rows()])
            self.assertIs(is_table(program, inner, outer), True)
            self.assertIs(is_closed(program, inner, outer), True)

    def test_in_another_order(self):
        rng = random.Random(621)
        for program in programs(10, 621):
            inner, outer = table(program)
            rng.shuffle(inner)
            outer.reverse()
            before = copy.deepcopy((inner, outer))
            self.assertIs(is_table(program, inner, outer), True)
            self.assertEqual((inner, outer), before)

    def test_least_of_all(self):
        """A value one less, or a row left out, would tell less than runs show."""
        rng = random.Random(622)
        for program in programs(8, 622):
            inner, outer = table(program)
            for rows in (inner, outer):
                for at in rng.sample(range(len(rows)), min(len(rows), 12)):
                    for item in [None] + ([0, 10 ** 60] if rows[at][6] == "endless" else [rows[at][6] - 1]):
                        changed = rows[:at] + ([] if item is None else [rows[at][:6] + (item,)]) + rows[at + 1:]
                        given = (changed, outer) if rows is inner else (inner, changed)
                        self.assertIs(is_table(program, *given), False, (rows[at], item))
                        self.assertIs(is_closed(program, *given), False)

    def test_against_the_words_of_the_document(self):
        """With some values greater or less, endless or none, a table is closed or is not."""
        rng = random.Random(623)
        seen = {True: 0, False: 0}
        for program in programs(150, 623):
            if rng.random() < 0.5:
                inner, outer = table(program)
            else:
                inner, outer = closed_again(program, *[self.some_greater(rng, rows) for rows in table(program)])
            if rng.random() < 0.6:
                rows = rng.choice([inner, outer])
                at = rng.randrange(len(rows))
                rows[at] = rows[at][:6] + (rng.choice(["endless", 10 ** 70, 3, -10 ** 70]),)
            told = is_table(program, inner, outer)
            self.assertIs(told, is_closed(program, inner, outer))
            seen[told] += 1
        self.assertTrue(min(seen.values()) > 30, seen)

    def some_greater(self, rng, rows):
        found = list(rows)
        for _ in range(rng.randint(1, 3)):
            at = rng.randrange(len(rows))
            value = rows[at][6]
            found[at] = rows[at][:6] + (rng.choice(["endless",
                                                    "endless" if value == "endless" else value + rng.randint(0, 5)]),)
        return found

    def test_all_endless(self):
        for program in programs(10, 624):
            inner, outer = [[row[:6] + ("endless",) for row in rows] for rows in table(program)]
            self.assertIs(is_table(program, inner, outer), True)
            self.assertEqual(loosest(program, inner, outer),
                             [row[:6] + ("endless",) for row in table(program)[1] if row[6] != "endless"])

    def test_outer_greater_everywhere(self):
        for program in programs(10, 625):
            inner, outer = table(program)
            looser = [row if row[6] == "endless" else row[:6] + (row[6] + 4,) for row in outer]
            self.assertIs(is_table(program, inner, looser), True)
            self.assertEqual(loosest(program, inner, looser[::-1]), [row for row in looser if row[6] != "endless"])
            self.assertEqual(loosest(program, inner, outer[::-1]), [])

    def test_rows_where_there_is_no_such_part(self):
        """A closed table may have rows of places that are not come to, and of sources that a side never comes of."""
        main = Procedure({"a": "plain", "h": "high"}, ["a"], [], 3, [(0, 1, ("set", [("a", "a", 2)]))])
        program = Program({"main": main}, "main")
        inner, outer = table(program)
        self.assertIs(is_table(program, inner, outer + [("main", 2, "a", "h", "a", "a", 5)]), False)
        for row in [("main", 2, "h", "a", "a", "a", 5), ("main", 2, "", "", "a", "a", "endless"),
                    ("main", 1, "a", "a", "", "", -7)]:
            self.assertIs(is_table(program, inner, outer + [row]), True, row)
            self.assertIs(is_table(program, inner + [row], outer), True, row)
            self.assertEqual(loosest(program, inner, [row] + outer), [row])
        for row in [("main", 2, "*", "a", "a", "*", 5), ("main", 2, "a", "*", "*", "*", 5),
                    ("main", 2, "h", "a", "*", "", 5)]:
            self.assertIs(is_table(program, inner, outer + [row]), False, row)
            self.assertIs(is_table(program, inner + [row], outer), True, row)
        # Such a row at place 0 wants what comes of it.
        row = ("main", 0, "a", "a", "", "a", 1)
        self.assertIs(is_table(program, inner, outer + [row]), False)
        wanted = [("main", 1, "a", "a", "", "a", 1)]
        self.assertIs(is_table(program, inner, outer + [row] + wanted), True)
        self.assertIs(is_table(program, inner, outer + [row] + [wanted[0][:6] + (0,)]), False)

    def test_a_row_twice(self):
        for program in programs(3, 626):
            inner, outer = table(program)
            for value in (inner[0][6], "endless", 10 ** 40):
                self.assertIs(is_table(program, inner + [inner[0][:6] + (value,)], outer), False)
                self.assertIs(is_table(program, inner, outer + [outer[-1][:6] + (value,)]), False)

    def test_one_part_of_a_row_otherwise(self):
        kinds = {"p": "plain", "h": "high", "l": "low"}
        f = Procedure({"x": "plain", "y": "plain"}, ["x"], ["y"], 2, [(0, 1, ("set", [("y", "x", 1)]))])
        main = Procedure(kinds, ["p", "h", "l"], [], 2, [(0, 1, ("call", "f", [("p", 0)], ["p"]))])
        program = Program({"main": main, "f": f}, "main")
        inner, outer = table(program)
        self.assertIs(is_table(program, inner, outer), True)
        for rows in (inner, outer):
            for at in range(0, len(rows), 3):
                row = rows[at]
                things = [list(row), row[:6], row + (0,), (), None, 0, "row", {row: 1}, tuple(row[:5])]
                for place, others in [
                    (0, ["g", "", "Main", None, 0, True, ["main"], ANY]),
                    (1, [2, -1, True, False, "0", None, [0], ANY, 10 ** 40]),
                    (2, ["z", "l", None, 0, True, ["p"], "**", ANY]), (3, ["z", "h", None, 0, False, ("p",), ANY]),
                    (4, ["z", "q", "y", None, 0, True, ANY]), (5, ["z", "y", None, 0, {}, ANY]),
                    (6, [True, False, None, "Endless", "", "0", [0], (1,), "*", ANY]),
                ]:
                    things += [at_place(row, place, item) for item in others]
                for thing in things:
                    changed = rows[:at] + [thing] + rows[at + 1:]
                    self.assertIs(is_table(program, *((changed, outer) if rows is inner else (inner, changed))), False,
                                  thing)
                    longer = rows + [thing]
                    self.assertIs(is_table(program, *((longer, outer) if rows is inner else (inner, longer))), False,
                                  thing)
        for place, item in [(2, "*"), (3, "*"), (4, "*"), (5, "*"), (4, "x"), (5, "x")]:
            self.assertIs(is_table(program, inner, outer + [at_place(("main", 1, "p", "p", "", "", 0), place, item)]),
                          False)

    def test_any_other_values(self):
        loop = loop_program()
        inner, outer = table(loop)
        for thing in junk() + [ANY, tuple(inner), [], deep(), {}, [ANY], [None], [[]], [()], loop, [inner], "",
                               [("main",)] * 5]:
            self.assertIs(is_table(loop, thing, outer), False)
            self.assertIs(is_table(loop, inner, thing), False)
            self.assertIs(is_table(loop, thing, thing), False)
        self.assertIs(is_table(loop, tuple(inner), outer), False)
        self.assertIs(is_table(loop, inner, tuple(outer)), False)
        self.assertIs(is_table(loop, outer, inner), False)

    def fails(self, program, which, key):
        """Whether a table without the row of a key, and without all that comes of it, is not closed any more."""
        inner, outer = table(program)
        rows = {"inner": inner, "outer": outer}
        self.assertIs(is_table(program, inner, outer), True)
        at = [row[:6] for row in rows[which]].index(key)
        value = rows[which][at][6]
        for item in (None, -10 ** 9 if value == "endless" else value - 1):
            rows[which][at:at + 1] = [] if item is None else [key + (item,)]
            self.assertIs(is_table(program, inner, outer), False, (which, key, item))
            rows[which][at:at + (item is not None)] = [key + (value,)]
        self.assertIs(is_table(program, inner, outer), True)

    def test_the_four_ways_not_to_be_closed(self):
        f = Procedure({"x": "plain", "y": "plain"}, ["x"], ["y"], 2, [(0, 1, ("set", [("y", "x", 1)]))])
        main = Procedure({"a": "plain", "b": "plain"}, ["a"], [], 3, [
            (0, 1, ("set", [("b", "a", 5)])), (1, 2, ("call", "f", [("b", 2)], ["a"]))])
        program = Program({"main": main, "f": f}, "main")
        for which, keys in [
            ("inner", [("main", 0, "a", "b", "a", ""), ("f", 0, "x", "*", "x", "*"), ("f", 0, "*", "*", "*", "*"),
                       ("f", 0, "", "y", "", "")]),
            ("outer", [("main", 0, "a", "b", "a", ""), ("main", 0, "", "", "", "")]),
            # A way that is no call.
            ("inner", [("main", 1, "b", "a", "a", "a"), ("main", 1, "b", "*", "a", "*"), ("f", 1, "y", "x", "x", "x")]),
            ("outer", [("main", 1, "b", "a", "a", "a"), ("main", 1, "a", "b", "a", "a"), ("f", 1, "y", "x", "a", "a")]),
            # Behind a call: what it gives, what rests, and both.
            ("inner", [("main", 2, "a", "b", "a", "a"), ("main", 2, "b", "a", "a", "a"),
                       ("main", 2, "b", "*", "a", "*"),
                       ("main", 2, "a", "a", "a", "a"), ("main", 2, "", "*", "", "*")]),
            ("outer", [("main", 2, "a", "b", "a", "a"), ("main", 2, "b", "", "a", ""), ("main", 2, "a", "a", "a", "a"),
                       ("main", 2, "", "", "", "")]),
            # Into a call.
            ("outer", [("f", 0, "x", "y", "a", ""), ("f", 0, "x", "x", "a", "a"), ("f", 0, "", "", "", ""),
                       ("f", 0, "y", "", "", "")]),
        ]:
            for key in keys:
                self.fails(program, which, key)

    def test_no_moment_shows_more_than_a_closed_table_tells(self):
        rng = random.Random(627)
        for program in programs(40, 627):
            inner, outer = closed_again(program, *[self.some_greater(rng, rows) for rows in table(program)])
            self.assertIs(is_table(program, inner, outer), True)
            rows = {row[:6]: row[6] for row in outer}
            for key, value in short_outer(program, 3).items():
                self.assertFalse(greater(value, rows[key]))
            inside = {row[:6]: row[6] for row in inner}
            for key, value in short_inner(program, 2).items():
                self.assertFalse(greater(value, inside[key]))
            facts = wide_facts(rng, program)
            for spot in {row[:4] for row in outer}:
                told = far(program, facts, spot)
                self.assertFalse(told is not None and greater(told, known(facts, outer, spot)))

    def test_loosest(self):
        rng = random.Random(628)
        for program in programs(40, 628):
            inner, outer = closed_again(program, *[self.some_greater(rng, rows) for rows in table(program)])
            exact = {row[:6]: row[6] for row in Outer(program).rows()}
            expected = [row for row in outer if row[:6] not in exact or greater(row[6], exact[row[:6]])]
            before = copy.deepcopy((inner, outer))
            for _ in range(2):
                found = loosest(program, inner, outer)
                self.assertEqual(found, sorted(expected, key=lambda row: row[:6]))
                found.clear()
            self.assertEqual((inner, outer), before)

    def test_what_is_told_is_its_callers(self):
        loop = loop_program()
        for _ in range(2):
            inner, outer = table(loop)
            self.assertIs(is_table(loop, inner, outer), True)
            inner.clear()
            outer.reverse()
            self.assertIs(is_table(loop, *table(loop)), True)


if __name__ == "__main__":
    unittest.main()
