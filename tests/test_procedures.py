"""Promise [31]: procedures."""

import copy
import unittest
from unittest.mock import ANY

from samples import deep, junk

from farapart.errors import BadKind, NoEntry, NoName, NoPlace, NoWay, Wrong
from farapart.procedures import Procedure

KINDS = {"p": "plain", "h": "high", "l": "low", "a": "plain"}
WAYS = [
    (0, 1, ("set", [("p", "a", 1), ("h", "h", 2), ("l", "", 3)])),
    [1, 2, ("most", "h", [("p", 4), ("h", 5), ("", 6)])],
    (0, 0, ("least", "l", [("l", 7)])),
    (2, 0, ("call", "other", [("h", 8), ("l", 9)], ["a", "p"])),
    (2, 2, ("skip",)),
]
FROZEN = [
    (0, 1, ("set", (("p", "a", 1), ("h", "h", 2), ("l", "", 3)))),
    (1, 2, ("most", "h", (("p", 4), ("h", 5), ("", 6)))),
    (0, 0, ("least", "l", (("l", 7),))),
    (2, 0, ("call", "other", (("h", 8), ("l", 9)), ("a", "p"))),
    (2, 2, ("skip",)),
]
ARGUMENTS = (KINDS, ["p", "h"], ["l"], 3, WAYS)

SPOILT = [
    [None, 1, True, [], ("p", "plain"), [("p", "plain")], "p", {"p": "Plain"}, {"p": None}, {"P": "plain"}, {"": "plain"},
     {1: "plain"}, {("p",): "plain"}, {"p": "plain", "abcdefghi": "low"}, {"p": ["plain"]}, {"p": True}, {None: None},
     {"p": deep()}],
    [None, 1, True, "p", "", {"p": 1}, {"p"}, ["p", "p"], ["p", ""], ["P"], [None], [["p"]], [("p",)], ["a", 1], deep(),
     ["p"] * 9000],
    [None, 1, True, "p", "", {"p": 1}, {"p"}, ("p", "a", "p"), ["p", ""], ["P"], [None], [["p"]], [True], deep()],
    [None, 0, -1, True, False, "1", [1], (1,), {}, b"1", -10 ** 50, deep()],
    [None, 1, True, "", "abc", {}, {0: (0, 0, ("skip",))}, [None], [("skip",)], [(0, 0)], [(0, 0, ("skip",), 1)],
     [(0, -1, ("skip",))], [(-1, 0, ("skip",))], [(True, 0, ("skip",))], [(0, False, ("skip",))],
     [("0", 0, ("skip",))], [(0, None, ("skip",))], [(0, 0, ["skip"])], [(0, 0, ("set", [("p", "a", True)]))],
     [(0, 0, ("most", "h", []))], [(0, 0, ("set", [("p", "a", 1), ("p", "a", 1)]))], (0, 0, ("skip",)),
     [(0, 0, ("skip",)), {0: 0}], [WAYS[0], (0, 0, None)], deep(), [[0, 0, ("call", "other", [], ["a", "a"])]],
     [(0, 0, ("skip",))] * 1500 + [(0, 0)], [{0, 1, ("skip",)}]],
]


def made(**changed):
    names = ("names", "params", "results", "size", "ways")
    return Procedure(*[changed.get(name, given) for name, given in zip(names, ARGUMENTS)])


class ProceduresTest(unittest.TestCase):
    def raises(self, error, call, *given, **more):
        with self.assertRaises(error) as caught:
            call(*given, **more)
        self.assertIs(type(caught.exception), error)
        return caught.exception

    def test_what_it_tells(self):
        procedure = made()
        self.assertEqual([procedure.params, procedure.results, procedure.size], [("p", "h"), ("l",), 3])
        self.assertEqual(procedure.names(), ["a", "h", "l", "p"])
        self.assertEqual([procedure.kind(x) for x in ["", "a", "h", "l", "p"]], ["plain", "plain", "high", "low", "plain"])
        self.assertEqual(procedure.uppers(), ["", "a", "h", "p"])
        self.assertEqual(procedure.lowers(), ["", "a", "l", "p"])
        self.assertEqual(procedure.ways(), FROZEN)
        self.assertEqual([procedure.way(index) for index in range(5)], FROZEN)
        self.assertEqual([procedure.out(place) for place in range(3)], [[0, 2], [1], [3, 4]])
        self.assertEqual(len(procedure), 5)
        self.assertIsInstance(procedure.way(1), tuple)

    def test_lists_and_tuples_alike(self):
        procedure = Procedure(KINDS, ("p", "h"), ("l",), 3, tuple(tuple(way) for way in FROZEN))
        self.assertEqual(procedure, made())
        self.assertEqual(procedure.ways(), FROZEN)
        self.assertEqual(Procedure(KINDS, ("p", "h"), ("l",), 3, [list(way) for way in WAYS]), procedure)

    def test_the_smallest(self):
        procedure = Procedure({}, [], (), 1, [])
        self.assertEqual([procedure.names(), procedure.uppers(), procedure.lowers(), procedure.ways(), procedure.out(0)],
                         [[], [""], [""], [], []])
        self.assertEqual([procedure.params, procedure.results, procedure.size, len(procedure)], [(), (), 1, 0])
        self.raises(NoWay, procedure.way, 0)

    def test_wrong_tells_the_first_argument(self):
        for place, things in enumerate(SPOILT):
            for thing in things:
                given = list(ARGUMENTS)
                given[place] = thing
                self.assertEqual(self.raises(Wrong, Procedure, *given).place, place, thing)
                for later in range(place + 1, 5):
                    given[later] = SPOILT[later][0]
                self.assertEqual(self.raises(Wrong, Procedure, *given).place, place, thing)
        for thing in junk():
            self.assertEqual(self.raises(Wrong, Procedure, KINDS, [], [], 3, [thing]).place, 4)
            self.assertEqual(self.raises(Wrong, Procedure, KINDS, [], [], 3, [(0, 0, thing)]).place, 4)

    def test_wrong_comes_ahead_of_the_others(self):
        bad = [(9, 0, ("set", [("q", "h", 1)])), (0, 0, ("set", [("p", "h", 1)]))]
        self.assertEqual(self.raises(Wrong, made, params=["x"], ways=bad + [None]).place, 4)
        self.assertEqual(self.raises(Wrong, made, params=["x"], ways=bad, size=0).place, 3)
        self.assertEqual(self.raises(Wrong, made, params=["x"], ways=bad, results=["y", "y"]).place, 2)
        self.assertEqual(self.raises(NoName, made, params=["x"], results=["y"], ways=bad).name, "x")
        self.assertEqual(self.raises(NoName, made, results=["l", "y"], ways=bad).name, "y")
        self.assertEqual(self.raises(NoName, made, ways=bad).name, "q")
        self.assertEqual(self.raises(NoPlace, made, ways=[(9, 0, bad[1][2])]).place, 9)
        self.assertEqual(self.raises(BadKind, made, ways=[bad[1]]).name, "p")

    def test_no_name_is_the_least_of_the_first_way(self):
        for statement, name in [
            (("set", [("z", "a", 1), ("y", "w", 1)]), "w"), (("set", [("p", "z", 1), ("h", "y", 1)]), "y"),
            (("set", [("b", "z", 1)]), "b"), (("most", "x", [("p", 1)]), "x"), (("most", "h", [("z", 1), ("y", 1)]), "y"),
            (("least", "x", [("y", 1), ("", 1)]), "x"), (("call", "other", [("z", 1)], ["y"]), "y"),
            (("call", "other", [("w", 1)], ["y"]), "w"), (("call", "other", [], ["z", "b"]), "b"),
        ]:
            self.assertEqual(self.raises(NoName, made, ways=WAYS + [(0, 0, statement)]).name, name)
            later = [(0, 0, statement), (0, 0, ("set", [("aa", "", 0)]))]
            self.assertEqual(self.raises(NoName, made, ways=later).name, name)
        self.assertEqual(self.raises(NoName, made, params=["h", "x", "b"]).name, "x")
        self.assertEqual(self.raises(NoName, made, names={}).name, "p")

    def test_no_place_is_the_first(self):
        skip = ("skip",)
        for ways, place in [([(3, 4, skip)], 3), ([(2, 3, skip)], 3), ([(0, 5, skip), (4, 0, skip)], 5),
                            ([(0, 0, skip), (4, 9, skip)], 4), ([(10 ** 30, 0, skip)], 10 ** 30)]:
            self.assertEqual(self.raises(NoPlace, made, ways=ways).place, place)
        self.assertEqual(self.raises(NoPlace, made, size=2).place, 2)
        self.assertEqual(self.raises(NoPlace, Procedure, {}, [], [], 1, [(0, 1, skip)]).place, 1)

    def test_bad_kind_is_the_first(self):
        for statement, name in [
            (("most", "p", [("a", 1)]), "p"), (("most", "l", [("l", 1)]), "l"), (("least", "h", [("h", 1)]), "h"),
            (("least", "a", [("p", 1)]), "a"), (("most", "h", [("p", 1), ("l", 1)]), "h"),
            (("least", "l", [("", 1), ("h", 1)]), "l"), (("set", [("p", "h", 1)]), "p"), (("set", [("a", "l", 1)]), "a"),
            (("set", [("h", "l", 1)]), "h"), (("set", [("l", "h", 1)]), "l"),
            (("set", [("h", "h", 1), ("p", "l", 1), ("a", "h", 1)]), "p"), (("set", [("l", "h", 1), ("a", "l", 1)]), "l"),
        ]:
            self.assertEqual(self.raises(BadKind, made, ways=WAYS + [(0, 0, statement)]).name, name)
            later = [(0, 0, statement), (0, 0, ("set", [("a", "h", 0)]))]
            self.assertEqual(self.raises(BadKind, made, ways=later).name, name)

    def test_what_fits(self):
        fitting = [("set", [("p", "a", 1), ("h", "p", 1), ("l", "", 1)]), ("set", [("h", "h", 1), ("l", "l", 1)]),
                   ("most", "h", [("h", 1), ("p", 1), ("", 1)]), ("least", "l", [("l", 1), ("p", 1), ("", 1)]),
                   ("call", "other", [("l", 1), ("h", 1)], ["p", "a", "h"])]
        self.assertEqual(len(made(ways=[(0, 0, statement) for statement in fitting])), 5)

    def test_what_there_is_not(self):
        procedure = made()
        for index in (-1, 5, 6, -5, 10 ** 30):
            self.assertEqual(self.raises(NoWay, procedure.way, index).index, index)
            self.assertEqual(self.raises(NoWay, procedure.without_way, index).index, index)
            self.assertEqual(self.raises(NoWay, procedure.with_number, index, -1, 1).index, index)
        for place in (-1, 3, -3, 10 ** 30):
            self.assertEqual(self.raises(NoPlace, procedure.out, place).place, place)
        for source in ["x", "pp", "plain", "b"]:
            self.assertEqual(self.raises(NoName, procedure.kind, source).name, source)

    def test_with_way(self):
        procedure = made()
        more = procedure.with_way([1, 1, ("set", [("p", "a", 3)])])
        self.assertEqual(more.ways(), FROZEN + [(1, 1, ("set", (("p", "a", 3),)))])
        self.assertEqual(procedure.ways(), FROZEN)
        self.assertEqual(more.without_way(5), procedure)
        for thing in junk() + [(0, 0), (0, -1, ("skip",)), (0, 0, ("set", [("p", "a", None)])), ("skip",)]:
            self.assertEqual(self.raises(Wrong, procedure.with_way, thing).place, 4)
        self.assertEqual(self.raises(NoName, procedure.with_way, (7, 0, ("set", [("p", "q", 3)]))).name, "q")
        self.assertEqual(self.raises(NoPlace, procedure.with_way, (1, 7, ("set", [("p", "h", 3)]))).place, 7)
        self.assertEqual(self.raises(BadKind, procedure.with_way, (1, 1, ("set", [("p", "h", 3)]))).name, "p")

    def test_without_way(self):
        for index in range(5):
            self.assertEqual(made().without_way(index).ways(), FROZEN[:index] + FROZEN[index + 1:])

    def test_with_number(self):
        procedure = made()
        changed = procedure.with_number(0, 1, -9)
        self.assertEqual(changed.way(0), (0, 1, ("set", (("p", "a", 1), ("h", "h", -9), ("l", "", 3)))))
        self.assertEqual(changed.ways()[1:], FROZEN[1:])
        self.assertEqual(changed.with_number(0, 1, 2), procedure)
        self.assertEqual(procedure.with_number(3, 1, 10).way(3), (2, 0, ("call", "other", (("h", 8), ("l", 10)), ("a", "p"))))
        for index, at in [(0, -1), (0, 3), (4, 0), (2, 1), (3, 2)]:
            self.assertEqual(self.raises(NoEntry, procedure.with_number, index, at, 1).many, at)

    def test_renamed(self):
        names = {"p": "a", "a": "p", "h": "up", "l": "down"}
        procedure = made().renamed(names)
        self.assertEqual(procedure, Procedure(
            {"a": "plain", "p": "plain", "up": "high", "down": "low"}, ["a", "up"], ["down"], 3, [
                (0, 1, ("set", [("a", "p", 1), ("up", "up", 2), ("down", "", 3)])),
                (1, 2, ("most", "up", [("a", 4), ("up", 5), ("", 6)])),
                (0, 0, ("least", "down", [("down", 7)])),
                (2, 0, ("call", "other", [("up", 8), ("down", 9)], ["p", "a"])),
                (2, 2, ("skip",)),
            ]))
        self.assertEqual(procedure.renamed({new: old for old, new in names.items()}), made())
        self.assertEqual(names, {"p": "a", "a": "p", "h": "up", "l": "down"})
        calling = made().with_way((0, 0, ("call", "h", [], [])))
        self.assertEqual(calling.renamed(names).way(5), (0, 0, ("call", "h", (), ())))

    def test_equal(self):
        procedure = made()
        self.assertIs(procedure == made(names={name: KINDS[name] for name in sorted(KINDS)}), True)
        self.assertIs(procedure != made(), False)
        others = [made(names={**KINDS, "b": "plain"}), made(names={**KINDS, "a": "high"}, ways=[]), made(params=["h", "p"]),
                  made(params=["p"]), made(results=[]), made(size=4), made(ways=WAYS[:4]), made(ways=WAYS[::-1]),
                  made().with_number(0, 0, 2)]
        for other in others:
            self.assertIs(procedure == other, False)
            self.assertIs(procedure != other, True)
        for thing in junk() + [ARGUMENTS, list(ARGUMENTS), ANY]:
            self.assertIs(procedure == thing, False)

    def test_what_is_passed_in_stays_and_may_be_changed_behind(self):
        given = copy.deepcopy(list(ARGUMENTS))
        procedure = Procedure(*given)
        self.assertEqual(given, list(ARGUMENTS))
        self.assertEqual(list(given[0]), list(KINDS))
        given[0].clear()
        given[1].clear()
        given[2].append("a")
        given[4][0][2][1].append(("q", "q", 1))
        given[4][1][0] = 7
        given[4].pop()
        self.assertEqual(procedure, made())
        way = [0, 0, ("set", [("p", "a", 1)])]
        more = procedure.with_way(way)
        way[2][1].clear()
        way[0] = 2
        self.assertEqual(more.way(5), (0, 0, ("set", (("p", "a", 1),))))

    def test_what_is_returned_may_be_changed(self):
        procedure = made()
        for call in (procedure.names, procedure.uppers, procedure.lowers, procedure.ways, lambda: procedure.out(0)):
            found = call()
            kept = list(found)
            found.append(1)
            found[0] = 2
            self.assertEqual(call(), kept)
        self.assertEqual(procedure, made())


if __name__ == "__main__":
    unittest.main()
