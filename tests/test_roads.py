"""Promises [40], [41], [42] and the guarantee [7]: roads."""

import copy
import random
import unittest
from unittest.mock import ANY

from oracle import begun_with, part_form, whole_form, wide_program
from runner import count
from samples import down_program, junk, loop_program

from farapart.errors import BadRow, NoEntry, NotSo, TooMany, Wrong
from farapart.forms import Form
from farapart.plays import form_at, is_moment, is_run, played, steps_of
from farapart.procedures import Procedure
from farapart.programs import Program
from farapart.roads import Roads

HUGE = 10 ** 60 - 7


def sample_program():
    """Two procedures that call themselves and one another, plain ones."""
    main = [
        (0, 1, ("set", [("a", "b", 1)])), (1, 0, ("skip",)), (0, 2, ("call", "f", [("a", 0)], ["b"])),
        (1, 1, ("set", [("a", "a", 2)])), (1, 2, ("call", "main", [("a", 1)], ["b"])),
    ]
    f = [
        (0, 1, ("set", [("y", "x", 3)])), (0, 1, ("call", "f", [("x", 1)], ["y"])),
        (0, 0, ("call", "main", [("x", 0)], ["x"])), (1, 1, ("skip",)),
    ]
    plain = {"a": "plain", "b": "plain"}
    return Program({"main": Procedure(plain, ["a"], ["b"], 3, main),
                    "f": Procedure({"x": "plain", "y": "plain"}, ["x"], ["y"], 2, f)}, "main")


ROWS = [
    ("steps", "main", 0, ()), ("steps", "main", 0, (0,)), ("steps", "main", 1, (1,)), ("steps", "main", 0, (0, 3, 1)),
    ("steps", "f", 0, (0,)), ("run", 4), ("call", "main", 2, 5), ("then", 3, 6), ("again", 3, 5), ("run", 7),
    ("steps", "main", 2, ()), ("around", 0, 2, 10), ("steps", "f", 0, ()), ("steps", "f", 1, ()), ("around", 12, 1, 13),
    ("within", 11, 14), ("times", 14, 7), ("filled", 16, 5), ("enter", 0, 2), ("enter", 12, 1), ("deeper", 18, 19),
    ("times", 19, 9), ("moment", None, 1), ("moment", 20, 12), ("around", 1, 4, 10), ("filled", 24, 9), ("enter", 1, 4),
    ("around", 12, 1, 13), ("filled", 15, 17), ("call", "main", 4, 28), ("moment", 18, 12), ("steps", "f", 0, (0, 3)),
    ("steps", "main", 1, ()),
]

# (kind, procedure, wanted, ends, length) of each.
TOLD = [
    ("part", "main", None, (0, 0), 0), ("part", "main", None, (0, 1), 1), ("part", "main", None, (1, 0), 1),
    ("part", "main", None, (0, 0), 3), ("part", "f", None, (0, 1), 1), ("run", "f", None, None, 1),
    ("part", "main", None, (0, 2), 2), ("part", "main", None, (0, 2), 5), ("part", "main", None, (0, 0), 15),
    ("run", "main", None, None, 5), ("part", "main", None, (2, 2), 0), ("context", "main", "f", None, 1),
    ("part", "f", None, (0, 0), 0), ("part", "f", None, (1, 1), 0), ("context", "f", "f", None, 1),
    ("context", "main", "f", None, 2), ("context", "f", "f", None, 7), ("run", "f", None, None, 8),
    ("entry", "main", "f", None, 1), ("entry", "f", "f", None, 1), ("entry", "main", "f", None, 2),
    ("entry", "f", "f", None, 9), ("moment", "main", None, None, 1), ("moment", "main", None, None, 2),
    ("context", "main", "main", None, 2), ("run", "main", None, None, 7), ("entry", "main", "main", None, 2),
    ("context", "f", "f", None, 1), ("run", "main", None, None, 10), ("part", "main", None, (1, 2), 11),
    ("moment", "main", None, None, 1), ("part", "f", None, (0, 1), 2), ("part", "main", None, (1, 1), 0),
]

NO_ROWS = [
    # What is no tuple of a word, or of as many items.
    None, [], (), "", "run", 0, True, ["run", 4], ["steps", "main", 0, ()], ("Run", 4), ("steps",), (None, 4),
    (["run"], 4),
    ("run",), ("run", 4, 4), ("steps", "main", 0), ("steps", "main", 0, (), ()), ("call", "main", 2),
    ("call", "main", 2, 5, 5),
    ("then", 3), ("then", 3, 6, 6), ("again", 3), ("again", 3, 5, 5), ("around", 0, 2), ("around", 0, 2, 10, 10),
    ("within", 11), ("within", 11, 14, 14), ("times", 14), ("times", 14, 7, 7), ("filled", 16), ("filled", 16, 5, 5),
    ("enter", 0), ("enter", 0, 2, 2), ("deeper", 18), ("deeper", 18, 19, 19), ("moment", 1), ("moment", None, 1, 1),
    ("moment",),
    # Steps.
    ("steps", "g", 0, ()), ("steps", None, 0, ()), ("steps", "", 0, ()), ("steps", ["main"], 0, ()),
    ("steps", "main", 3, ()),
    ("steps", "main", -1, ()), ("steps", "main", False, ()), ("steps", "main", "0", ()), ("steps", "main", None, ()),
    ("steps", "main", 0, None), ("steps", "main", 0, 0), ("steps", "main", 0, "0"), ("steps", "main", 0, {0: 1}),
    ("steps", "main", 0, (1,)), ("steps", "main", 0, (0, 0)), ("steps", "main", 0, (2,)), ("steps", "main", 0, (0, 4)),
    ("steps", "main", 0, (5,)), ("steps", "main", 0, (-5,)), ("steps", "main", 0, (False,)),
    ("steps", "main", 0, (0, True)),
    ("steps", "main", 0, ("0",)), ("steps", "main", 0, ((0,),)), ("steps", "main", 0, (None,)),
    ("steps", "main", 1, (0,)),
    ("steps", "main", 0, (0, 3, 0)), ("steps", "f", 0, (1,)), ("steps", "f", 0, (0, 4)),
    # Calls.
    ("call", "g", 2, 5), ("call", None, 2, 5), ("call", "main", 0, 5), ("call", "main", 5, 5), ("call", "main", -3, 5),
    ("call", "main", True, 5), ("call", "main", None, 5), ("call", "main", 2, 9), ("call", "main", 4, 5),
    ("call", "main", 2, 4),
    ("call", "main", 2, 11), ("call", "main", 2, 99), ("call", "main", 2, -1), ("call", "main", 2, "5"),
    ("call", "main", 2, None),
    ("call", "main", 2, True), ("call", "f", 0, 5), ("call", "f", 2, 5), ("call", "f", 1, 9),
    # Then and again.
    ("then", 1, 1), ("then", 1, 0), ("then", 0, 2), ("then", 0, 12), ("then", 12, 0), ("then", 5, 6), ("then", 3, 9),
    ("then", 99, 3), ("then", 3, 99), ("then", -1, 0), ("then", False, 3), ("then", 3, False), ("then", None, 3),
    ("then", "3", 3),
    ("then", 13, 12), ("then", 11, 10), ("then", 3, 22),
    ("again", 1, 5), ("again", 2, 1), ("again", 3, 0), ("again", 3, -1), ("again", 3, True), ("again", 3, None),
    ("again", 3, "5"),
    ("again", 5, 5), ("again", 14, 5), ("again", 19, 5), ("again", 99, 5), ("again", False, 5), ("again", 7, 1),
    ("again", 22, 1),
    # Runs.
    ("run", 0), ("run", 1), ("run", 2), ("run", 5), ("run", 10), ("run", 11), ("run", 13), ("run", 99), ("run", -1),
    ("run", None),
    ("run", True), ("run", "4"), ("run", [4]), ("run", 22), ("run", 29), ("run", 12),
    # Contexts.
    ("around", 1, 2, 10), ("around", 0, 2, 1), ("around", 0, 0, 10), ("around", 0, 9, 10), ("around", 0, -3, 10),
    ("around", 0, 2, 13), ("around", 12, 2, 13), ("around", 12, 1, 10), ("around", 0, True, 10),
    ("around", False, 2, 10),
    ("around", 0, 4, 10), ("around", 0, 2, 9), ("around", 5, 2, 10), ("around", 0, 2, None), ("around", None, 2, 10),
    ("around", 0, None, 10), ("around", 2, 2, 10), ("around", 12, 2, 12), ("around", 99, 2, 10), ("around", 12, 1, 12),
    ("around", 12, 1, 32), ("around", 0, 1, 32),
    ("within", 11, 11), ("within", 14, 11), ("within", 24, 14), ("within", 11, 19), ("within", 18, 14),
    ("within", 11, 5),
    ("within", 99, 14), ("within", 11, 99), ("within", None, 14), ("within", True, 14), ("within", 11, -1),
    ("times", 11, 2), ("times", 15, 1), ("times", 18, 1), ("times", 14, 0), ("times", 14, -4), ("times", 14, True),
    ("times", 14, None), ("times", 3, 2), ("times", 5, 2), ("times", 99, 2), ("times", None, 2), ("times", True, 2),
    ("times", 22, 1),
    ("filled", 11, 9), ("filled", 24, 5), ("filled", 14, 4), ("filled", 14, 14), ("filled", 19, 5), ("filled", 5, 5),
    ("filled", 99, 5), ("filled", 14, 99), ("filled", None, 5), ("filled", 14, None), ("filled", 14, True),
    ("filled", 14, 22),
    # Entries.
    ("enter", 1, 2), ("enter", 0, 0), ("enter", 0, 4), ("enter", 0, 9), ("enter", 0, -3), ("enter", 0, True),
    ("enter", 0, None),
    ("enter", 2, 2), ("enter", 12, 2, 0), ("enter", 13, 1), ("enter", 5, 2), ("enter", 18, 1), ("enter", 99, 2),
    ("enter", None, 2),
    ("enter", False, 2), ("enter", 12, 0), ("deeper", 18, 18), ("deeper", 19, 18), ("deeper", 26, 19),
    ("deeper", 18, 14),
    ("deeper", 14, 19), ("deeper", None, 19), ("deeper", 18, None), ("deeper", 99, 19), ("deeper", 18, 4),
    ("deeper", True, 19),
    # Moments.
    ("moment", None, 2), ("moment", None, 10), ("moment", None, 13), ("moment", 18, 0), ("moment", 18, 13),
    ("moment", 26, 12),
    ("moment", 11, 12), ("moment", 5, 12), ("moment", 18, 5), ("moment", None, 9), ("moment", None, 18),
    ("moment", None, None),
    ("moment", None, 99), ("moment", 99, 12), ("moment", True, 12), ("moment", None, False), ("moment", 18, 22),
    ("moment", 0, 0),
    ("moment", "", 0),
]


def mixed(row):
    """A row with lists in the place of the tuples in it."""
    return tuple(list(item) if isinstance(item, tuple) else item for item in row)


class RoadsTest(unittest.TestCase):
    def raises(self, error, call, *given):
        with self.assertRaises(error) as caught:
            call(*given)
        self.assertIs(type(caught.exception), error)
        return caught.exception

    def test_the_example(self):
        down = down_program()
        roads = Roads(down, [("steps", "deep", 0, [1]), ("run", 0), ("steps", "deep", 0, []), ("steps", "deep", 1, [])])
        self.assertEqual([roads.put(("around", 2, 0, 3)), roads.put(("times", 4, 10 ** 18)),
                          roads.put(("filled", 5, 1))],
                         [4, 5, 6])
        self.assertEqual([roads.kind(6), roads.length(6), roads.form(6)["m"], roads.wanted(4), roads.ends(3)],
                         ["run", 1000000000000000001, {"n": 1000000000000000000}, "deep", (1, 1)])
        self.assertEqual([roads.put(("call", "main", 0, 6)), roads.put(("moment", None, 7)), roads.shows(8, {"a": 0})],
                         [7, 8, ("main", 1, {"a": 0, "b": 1000000000000000003})])

    def test_what_rows_are(self):
        for rows in (ROWS, [mixed(row) for row in ROWS], tuple(ROWS)):
            roads = Roads(sample_program(), rows)
            self.assertEqual(len(roads), len(ROWS))
            self.assertEqual(roads.rows(), ROWS)
            for index, told in enumerate(TOLD):
                found = (roads.kind(index), roads.procedure(index), roads.wanted(index), roads.ends(index),
                         roads.length(index))
                self.assertEqual(found, told, index)

    def test_put_one_after_another(self):
        roads = Roads(sample_program())
        self.assertEqual([len(roads), roads.rows()], [0, []])
        for index, row in enumerate(ROWS):
            self.assertEqual(roads.put(mixed(row)), index)
            self.assertEqual(roads.rows(), ROWS[:index + 1])
        self.assertEqual(roads, Roads(sample_program(), ROWS))

    def test_no_rows(self):
        roads = Roads(sample_program(), ROWS)
        for thing in NO_ROWS + junk() + [ANY, (ANY, 4), ("run", ANY), ("steps", ANY, 0, ()), ("steps", "main", ANY, ()),
                                         ("steps", "main", 0, ANY), ("moment", ANY, 1), ("again", 3, ANY), object()]:
            error = self.raises(BadRow, roads.put, thing)
            self.assertEqual(error.row, len(ROWS), thing)
            self.assertEqual([len(roads), roads.rows()], [len(ROWS), ROWS])
            for at in (0, 10, len(ROWS)):
                if thing not in [("moment", None, False)]:
                    error = self.raises(BadRow, Roads, sample_program(), ROWS[:at] + [thing] + ROWS[at:])
                    self.assertEqual(error.row, at)
        self.assertEqual(roads.put(("run", 4)), len(ROWS))

    def test_a_row_of_a_later_number_or_of_itself(self):
        for at, row in enumerate(ROWS):
            for place, item in enumerate(row):
                if place > 0 and isinstance(item, int) and row[0] not in ("steps",) and (row[0], place) not in [
                        ("call", 2), ("again", 2), ("around", 2), ("times", 2), ("enter", 2)]:
                    for number in (at, at + 1, len(ROWS) + 1, -1):
                        changed = row[:place] + (number,) + row[place + 1:]
                        error = self.raises(BadRow, Roads, sample_program(), ROWS[:at] + [changed] + ROWS[at + 1:])
                        self.assertEqual(error.row, at, changed)

    def test_many_as_great_as_you_like(self):
        roads = Roads(sample_program(), ROWS)
        for many in (1, 10 ** 40, HUGE):
            self.assertEqual(roads.length(roads.put(("again", 3, many))), 3 * many)
            self.assertEqual(roads.length(roads.put(("again", 0, many))), 0)
            self.assertEqual(roads.length(roads.put(("times", 14, many))), many)
            self.assertEqual(roads.length(roads.put(("times", 26, many))), 2 * many)
            number = roads.put(("times", 24, many))
            self.assertEqual([roads.kind(number), roads.wanted(number)], ["context", "main"])

    def test_wrong(self):
        for thing in junk() + [None, {}, "main", ROWS, Roads(sample_program()), ANY]:
            self.assertEqual(self.raises(Wrong, Roads, thing).place, 0)
            self.assertEqual(self.raises(Wrong, Roads, thing, ROWS).place, 0)
            self.assertEqual(self.raises(Wrong, Roads, thing, None).place, 0)
        for thing in [None, True, 0, "", "run", {}, {0: ROWS[0]}, object(), b"", {1}, Roads(sample_program()), ANY]:
            self.assertEqual(self.raises(Wrong, Roads, sample_program(), thing).place, 1)

    def test_bad_row_is_the_first(self):
        self.assertEqual(self.raises(BadRow, Roads, sample_program(), [None, None]).row, 0)
        self.assertEqual(self.raises(BadRow, Roads, sample_program(), ROWS + [("run", 0), None]).row, len(ROWS))
        self.assertEqual(self.raises(BadRow, Roads, loop_program(), ROWS).row, 3)
        self.assertEqual(self.raises(BadRow, Roads, sample_program(), (("run", 1), ROWS[0])).row, 0)

    def test_what_is_passed_in_or_told_is_changed_behind(self):
        rows = [mixed(row) for row in ROWS]
        roads = Roads(sample_program(), rows)
        row = ("steps", "main", 0, [0, 3])
        number = roads.put(row)
        row[3].append(3)
        rows[3][3].clear()
        rows.clear()
        for _ in range(2):
            told = roads.rows()
            self.assertEqual(told, ROWS + [("steps", "main", 0, (0, 3))])
            told.clear()
            roads.form(number)["a"].clear()
            self.assertEqual(roads.form(number)["a"], {"b": 3})
            written = roads.written(28)
            self.assertEqual(written[0][:2], ("call", 2))
            written[0][2].clear()
        self.assertEqual([roads.ends(number), len(roads)], [(0, 1), len(ROWS) + 1])
        self.assertEqual([roads.put(("run", 4)), len(told)], [len(ROWS) + 1, 0])

    def test_equal(self):
        roads = Roads(sample_program(), ROWS)
        self.assertIs(roads == Roads(sample_program(), [mixed(row) for row in ROWS]), True)
        self.assertIs(roads != Roads(sample_program(), ROWS), False)
        self.assertIs(Roads(sample_program()) == Roads(sample_program(), []), True)
        other = sample_program().with_number("main", 0, 0, 2)
        for thing in [Roads(sample_program(), ROWS[:-1]), Roads(sample_program(), ROWS[:-1] + [("run", 4)]),
                      Roads(other, ROWS),
                      Roads(Program({"main": sample_program()["main"], "f": sample_program()["f"]}, "f"), ROWS)]:
            self.assertIs(roads == thing, False)
            self.assertIs(roads != thing, True)
        for thing in junk() + [ROWS, sample_program(), ANY, tuple(ROWS)]:
            self.assertIs(roads == thing, False)
        self.assertIs(Roads(sample_program()) == [], False)

    def test_no_entry(self):
        roads = Roads(sample_program(), ROWS)
        for thing in junk() + [-1, len(ROWS), 10 ** 40, True, False, "0", None, [0], (0,), {}, ANY, 1j]:
            if thing not in (0, 1) or isinstance(thing, bool):
                for call in (roads.kind, roads.procedure, roads.wanted, roads.ends, roads.length, roads.form,
                             roads.written,
                             lambda row: roads.shows(row, {"a": 0})):
                    self.assertIs(self.raises(NoEntry, call, thing).many, thing)
        self.assertEqual(self.raises(NoEntry, Roads(sample_program()).kind, 0).many, 0)

    def test_not_so(self):
        roads = Roads(sample_program(), ROWS)
        for index, (kind, *_) in enumerate(TOLD):
            if kind == "context":
                self.assertEqual(self.raises(NotSo, roads.form, index).row, index)
            else:
                self.assertIsInstance(roads.form(index), Form)
            if kind != "moment":
                self.assertEqual(self.raises(NotSo, roads.shows, index, {"a": 0}).row, index)
            if kind not in ("run", "moment"):
                self.assertEqual(self.raises(NotSo, roads.written, index).row, index)
            else:
                self.assertIsInstance(roads.written(index), list)

    def test_too_many(self):
        roads = Roads(sample_program(), ROWS)
        for many in (198, 199, 200, 10 ** 30):
            ring = roads.put(("again", roads.put(("steps", "main", 1, (3,))), many))
            moment = roads.put(("moment", None, roads.put(("then", 1, ring))))
            self.assertEqual(roads.length(moment), many + 1)
            run = roads.put(("filled", roads.put(("times", 14, many)), 5))
            if many < 200:
                self.assertEqual(roads.written(moment), [0] + [3] * many)
                self.assertEqual([steps_of(roads.written(run)), is_run(sample_program(), "f", roads.written(run))],
                                 [many + 1, True])
            else:
                self.assertEqual(self.raises(TooMany, roads.written, moment).most, 200)
                self.assertEqual(self.raises(TooMany, roads.written, run).most, 200)
            self.assertEqual(self.raises(NotSo, roads.written, ring).row, ring)

    def test_written_and_shown_beside_rows_that_are_too_long(self):
        roads = Roads(sample_program(), ROWS)
        part = roads.put(("again", 3, HUGE))
        for _ in range(300):
            part = roads.put(("then", part, roads.put(("again", part, HUGE))))
        run = roads.put(("run", 4))
        self.assertEqual([roads.written(run), roads.written(22), roads.form(run)["y"]], [[0], [0], {"x": 3}])

    def test_written(self):
        roads = Roads(sample_program(), ROWS)
        sevenfold = [0]
        for _ in range(7):
            sevenfold = [("call", 1, sevenfold)]
        self.assertEqual(roads.written(5), [0])
        self.assertEqual(roads.written(9), [0, 3, 1, ("call", 2, [0])])
        self.assertEqual(roads.written(17), sevenfold)
        self.assertEqual(roads.written(25), [0, ("call", 4, [0, 3, 1, ("call", 2, [0])])])
        self.assertEqual(roads.written(28), [("call", 2, [("call", 1, sevenfold)])])
        self.assertEqual([roads.written(22), roads.written(23), roads.written(30)],
                         [[0], [("in", 2, [("in", 1, [])])], [("in", 2, [])]])

    def test_written_where_there_is_nothing_to_write(self):
        loop = Program({"main": Procedure({"a": "plain"}, ["a"], [], 1, [(0, 0, ("set", [("a", "a", 1)]))])}, "main")
        roads = Roads(loop, [("steps", "main", 0, [])])
        for many in (HUGE, 10 ** 40, 3):
            roads.put(("again", len(roads) - 1, many))
        for _ in range(1500):
            roads.put(("then", len(roads) - 1, len(roads) - 1))
        run = roads.put(("run", len(roads) - 1))
        moment = roads.put(("moment", None, len(roads) - 2))
        self.assertEqual([roads.written(run), roads.written(moment), roads.length(run)], [[], [], 0])
        self.assertEqual([roads.form(run)["a"], roads.shows(moment, {"a": 7})], [{"a": 0}, ("main", 0, {"a": 7})])

    def test_long_chains_of_rows(self):
        roads = Roads(sample_program(), [("steps", "main", 1, (3,)), ("steps", "main", 0, (0,))])
        part = 1
        for _ in range(1500):
            part = roads.put(("then", part, 0))
        self.assertEqual([roads.length(part), roads.form(part)["a"]], [1501, {"b": 3001}])
        self.assertEqual(roads.shows(roads.put(("moment", None, part)), {"a": 5})[2], {"a": 3001, "b": 0})
        part = 0
        for _ in range(100):
            part = roads.put(("then", part, part))
        self.assertEqual([roads.length(part), roads.form(part)["a"]], [2 ** 100, {"a": 2 ** 101}])
        roads = Roads(sample_program(), ROWS)
        run = 5
        for _ in range(400):
            run = roads.put(("run", roads.put(("call", "f", 1, run))))
        self.assertEqual(roads.form(run)["y"], {"x": 403})
        self.assertEqual(self.raises(TooMany, roads.written, run).most, 200)


class FormsTest(unittest.TestCase):
    """Rows compared with the steps that they tell, one by one."""

    def put_all(self, rng, program):
        """Random rows with what they tell: the steps of parts, runs and moments, and functions of contexts and entries."""
        roads, told = Roads(program), []
        for _ in range(160):
            row, steps = self.random_row(rng, program, roads, told)
            if row is not None and (callable(steps) or count(steps) <= 40):
                self.assertEqual(roads.put(row), len(told))
                told.append(steps)
        return roads, told

    def random_row(self, rng, program, roads, told):
        name = rng.choice(program.names())
        size, end = program[name].size, program[name].size - 1

        def some(kind, test=lambda row: True):
            found = [row for row in range(len(roads)) if roads.kind(row) == kind and test(row)]
            return rng.choice(found) if found else None

        def called(index, owner):
            return program[owner].way(index)[2][1]

        word = rng.choice(["steps", "steps", "call", "call", "then", "again", "run", "run", "around", "within", "times",
                           "filled", "enter", "deeper", "moment"])
        if word == "steps":
            begin = place = rng.randrange(size)
            steps = []
            for _ in range(rng.randint(0, 3)):
                out = [index for index in program[name].out(place) if program[name].way(index)[2][0] != "call"]
                if out:
                    steps.append(rng.choice(out))
                    place = program[name].way(steps[-1])[1]
            return (word, name, begin, rng.choice([list, tuple])(steps)), steps
        calls = [index for index in range(len(program[name])) if program[name].way(index)[2][0] == "call"]
        if word in ("call", "around", "enter") and calls:
            index = rng.choice(calls)
            begin, goal, statement = program[name].way(index)
            ahead = some("part", lambda row: roads.procedure(row) == name and roads.ends(row) == (0, begin))
            behind = some("part", lambda row: roads.procedure(row) == name and roads.ends(row) == (goal, end))
            run = some("run", lambda row: roads.procedure(row) == statement[1])
            if word == "call" and run is not None:
                return (word, name, index, run), [("call", index, told[run])]
            if word == "around" and None not in (ahead, behind):
                one, other = told[ahead], told[behind]
                return (word, ahead, index, behind), lambda inner: one + [("call", index, inner)] + other
            if word == "enter" and ahead is not None:
                one = told[ahead]
                return (word, ahead, index), lambda inner: one + [("in", index, inner)]
        many = rng.randint(1, 4)
        if word in ("then", "again", "run"):
            one = some("part")
            other = some("part", lambda row: one is not None and roads.procedure(row) == roads.procedure(one)
                         and roads.ends(row)[0] == roads.ends(one)[1])
            if word == "then" and other is not None:
                return (word, one, other), told[one] + told[other]
            ring = some("part", lambda row: roads.ends(row)[0] == roads.ends(row)[1])
            if word == "again" and ring is not None:
                return (word, ring, many), told[ring] * many
            whole = some("part", lambda row: roads.ends(row) == (0, program[roads.procedure(row)].size - 1))
            if word == "run" and whole is not None:
                return (word, whole), told[whole]
        if word in ("within", "deeper", "times"):
            kind = {"within": "context", "deeper": "entry"}.get(word, rng.choice(["context", "entry"]))
            one = some(kind)
            other = some(kind, lambda row: one is not None and roads.procedure(row) == roads.wanted(one))
            if word != "times" and other is not None:
                outside, inside = told[one], told[other]
                return (word, one, other), lambda inner: outside(inside(inner))
            ring = some(kind, lambda row: roads.procedure(row) == roads.wanted(row))
            if word == "times" and ring is not None:
                turn = told[ring]

                def turns(inner):
                    for _ in range(many):
                        inner = turn(inner)
                    return inner
                return (word, ring, many), turns
        if word == "filled":
            context = some("context")
            run = some("run", lambda row: context is not None and roads.procedure(row) == roads.wanted(context))
            if run is not None:
                return (word, context, run), told[context](told[run])
        if word == "moment":
            entry = rng.choice([None, some("entry")])
            part = some("part", lambda row: roads.ends(row)[0] == 0
                        and (entry is None or roads.procedure(row) == roads.wanted(entry)))
            if part is not None:
                return (word, entry, part), told[part] if entry is None else told[entry](told[part])
        return None, []

    def test_against_the_steps(self):
        rng = random.Random(42)
        kinds = {}
        for index in range(120):
            program = wide_program(rng) if index > 10 else sample_program()
            roads, told = self.put_all(rng, program)
            for row, steps in enumerate(told):
                kinds[roads.rows()[row][0]] = kinds.get(roads.rows()[row][0], 0) + 1
                self.check(rng, program, roads, row, steps)
        self.assertEqual(len(kinds), 12)
        self.assertTrue(min(kinds.values()) > 30, kinds)

    def check(self, rng, program, roads, row, steps):
        name, kind = roads.procedure(row), roads.kind(row)
        first = begun_with(program, name)
        if kind == "part":
            self.assertEqual(roads.form(row), part_form(program, name, steps))
            self.assertEqual(roads.length(row), count(steps))
        elif kind == "run":
            self.assertEqual(roads.form(row), whole_form(program, name, steps))
            self.assertEqual([roads.written(row), roads.length(row)], [steps, count(steps)])
            self.assertIs(is_run(program, name, roads.written(row)), True)
        elif kind == "entry":
            moment = steps([])
            shown, place, form = form_at(first, moment)
            self.assertEqual([shown, place, form], [roads.wanted(row), 0, roads.form(row)])
            self.assertEqual(roads.length(row), count(moment))
        elif kind == "moment":
            start = {x: rng.randint(-9, 9) for x in program[name].params}
            self.assertEqual([roads.written(row), roads.length(row)], [steps, count(steps)])
            self.assertIs(is_moment(first, roads.written(row)), True)
            self.assertEqual(roads.form(row), form_at(first, steps)[2])
            self.assertEqual(roads.shows(row, start), played(first, steps, start))
            self.assertIsInstance(roads.shows(row, start), tuple)
        else:
            self.assertEqual(roads.length(row), count(steps([])))

    def test_many_is_as_often(self):
        """What many times does, put together of fewer times, whatever kinds the names have."""
        rng = random.Random(43)
        seen = {"part": 0, "context": 0, "entry": 0}
        for _ in range(60):
            program = wide_program(rng)
            roads, _ = self.put_all(rng, program)
            for row in rng.sample(range(len(roads)), min(15, len(roads))):
                kind = roads.kind(row)
                again = kind == "part" and roads.ends(row)[0] == roads.ends(row)[1]
                if not again and (kind not in seen or roads.wanted(row) != roads.procedure(row)):
                    continue
                seen[kind] += 1
                word, joined = {"part": ("again", "then"), "context": ("times", "within"),
                                "entry": ("times", "deeper")}[kind]
                for one, other in [(1, 2), rng.choice([(10 ** 18, 5), (HUGE, 10 ** 59 + 3)])]:
                    parts = [roads.put((word, row, many)) for many in (one, other)]
                    whole, halves = roads.put((word, row, one + other)), roads.put((joined, *parts))
                    self.assertEqual(roads.length(whole), roads.length(halves))
                    self.check_same(roads, kind, whole, halves)
        self.assertTrue(min(seen.values()) > 15, seen)

    def check_same(self, roads, kind, whole, halves):
        if kind != "context":
            self.assertEqual(roads.form(whole), roads.form(halves))
            return
        for run in range(len(roads)):
            if roads.kind(run) == "run" and roads.procedure(run) == roads.wanted(whole):
                filled = [roads.put(("filled", row, run)) for row in (whole, halves)]
                self.assertEqual(roads.form(filled[0]), roads.form(filled[1]))
                break

    def test_large_numbers(self):
        roads = Roads(sample_program(), ROWS)
        for many in (3, 10 ** 18, HUGE):
            ring = roads.put(("again", roads.put(("steps", "main", 1, (3,))), many))
            self.assertEqual([roads.form(ring)[x] for x in "ab"], [{"a": 2 * many}, {"b": 0}])
            run = roads.put(("filled", roads.put(("times", 14, many)), 5))
            self.assertEqual([roads.form(run)[x] for x in "xy"], [{"x": 0}, {"x": many + 3}])
            entry = roads.put(("times", 19, many))
            self.assertEqual([roads.form(entry)[x] for x in "xy"], [{"x": many}, {"": 0}])
            moment = roads.put(("moment", roads.put(("deeper", 18, entry)), 4))
            self.assertEqual(roads.shows(moment, {"a": -5}), ("f", 1, {"x": many - 5, "y": many - 2}))
            self.assertEqual(roads.length(moment), many + 2)

    def test_high_and_low_names(self):
        kinds = {"h": "high", "l": "low", "p": "plain"}
        ways = [(0, 0, ("most", "h", [("h", 2), ("p", 10)])), (0, 0, ("least", "l", [("l", -3), ("p", -10)])),
                (0, 0, ("call", "main", [("h", 1), ("p", 0), ("l", -1)], ["h", "l"])), (0, 0, ("set", [("p", "p", 1)]))]
        main = Program({"main": Procedure(kinds, ["h", "p", "l"], ["h", "l"], 1, ways)}, "main")
        roads = Roads(main, [("steps", "main", 0, [0, 1]), ("steps", "main", 0, []), ("run", 1), ("around", 1, 2, 0)])
        for many in (1, 2, 5, 10 ** 18, HUGE):
            form = roads.form(roads.put(("again", 0, many)))
            self.assertEqual(form["h"], {"h": 2 * many, "p": 2 * many + 8})
            self.assertEqual(form["l"], {"l": -3 * many, "p": -3 * many - 7})
            self.assertEqual(form["p"], {"p": 0})
            form = roads.form(roads.put(("filled", roads.put(("times", 3, many)), 2)))
            self.assertEqual(form["h"], {"h": 3 * many, "p": 8 + 2 * many})
            self.assertEqual(form["p"], {"p": 0})

    def test_a_context_whose_procedure_calls_itself_ahead_and_behind(self):
        """Each turn calls the procedure ahead of the gap, fills it, and calls it behind again."""
        ways = [(0, 1, ("call", "f", [("x", 1)], ["y"])), (1, 2, ("call", "f", [("y", 10)], ["y"])),
                (2, 3, ("call", "f", [("y", 100)], ["y"])), (0, 3, ("set", [("y", "x", 1000)]))]
        kinds = {"x": "plain", "y": "plain"}
        program = Program({"f": Procedure(kinds, ["x"], ["y"], 4, ways)}, "f")
        roads = Roads(program, [("steps", "f", 0, [3]), ("run", 0), ("call", "f", 0, 1), ("call", "f", 2, 1),
                                ("around", 2, 1, 3)])
        steps = [3]
        for many in (1, 2, 3):
            steps = [("call", 0, [3]), ("call", 1, steps), ("call", 2, [3])]
            run = roads.put(("filled", roads.put(("times", 4, many)), 1))
            self.assertEqual(roads.written(run), steps)
            self.assertEqual(roads.form(run), whole_form(program, "f", steps))
            self.assertEqual(roads.form(run)["y"], {"x": 1000 + many * 2111})
        run = roads.put(("filled", roads.put(("times", 4, HUGE)), 1))
        self.assertEqual(roads.form(run)["y"], {"x": 1000 + HUGE * 2111})

    def test_two_roads_by_turns(self):
        program = sample_program()
        one, other = Roads(program, ROWS), Roads(program, ROWS[:10])
        before = copy.deepcopy(other.rows())
        for row in range(10):
            self.assertEqual(one.form(row), other.form(row))
        one.put(("run", 4))
        self.assertEqual([other.rows(), len(other)], [before, 10])
        self.assertEqual([other.put(("run", 4)), one.kind(10), other.kind(10)], [10, "part", "run"])


if __name__ == "__main__":
    unittest.main()
