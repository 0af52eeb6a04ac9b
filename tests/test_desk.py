"""Promise [92]: desks."""

import random
import unittest

from oracle import wide_facts, wide_program
from samples import deep, down_program, junk, loop_program, turns_program
from test_book import random_deed, small_book
from test_notation import right_deed

from farapart.book import Book
from farapart.buffers import ring_size
from farapart.desk import Desk
from farapart.errors import (ApartError, Full, NoCommand, NoEntry, NoName, NoPlace, NoProc, NotFar, Nothing, NoWay, Refused, Unlike)
from farapart.facts import Facts
from farapart.far import far
from farapart.notation import show_claim, show_deed, show_facts, show_program
from farapart.procedures import Procedure
from farapart.programs import Program
from farapart.slack import slack
from farapart.statements import numbers

FACTS = Facts(["r", "w"], [("w", "r", 2), ("r", "w", 0), ("r", "", 5)])
BIG = 10 ** 40 - 7
LOOP = "first main\nprocedure main\nnames r:plain w:plain\nparams w,r\nresults -\nplaces 2\n0 1 set w=w+1\n1 0 set r=r+1"

# One line of each sort.
LINES = ["way main 0 1 set w=w+2 r=0-3", "out main 0", "number main 0 0 -2", "fact w r 1", "claim main 1 w r 5", "drop 0", "back", "again", "log",
         "program", "facts", "claims", "far main 1 w r", "slack main 0 0", "weakest", "ring main w r"]


def loop_desk(*lines):
    desk = Desk(loop_program(), FACTS)
    for line in lines:
        desk.execute(line)
    return desk


def state_of(desk):
    return [desk.execute(line) for line in ("program", "facts", "claims", "log")]


def written(found):
    return "none" if found is None else str(found)


class DeskTest(unittest.TestCase):
    def raises(self, error, desk, line):
        before = state_of(desk)
        with self.assertRaises(error) as caught:
            desk.execute(line)
        self.assertIs(type(caught.exception), error, line)
        self.assertEqual(state_of(desk), before)
        return caught.exception

    def answers(self, desk, *pairs):
        for line, answer in pairs:
            found = desk.execute(line)
            self.assertEqual(found, answer, line)
            self.assertIs(type(found), str)

    def test_the_example(self):
        desk = Desk(loop_program(), FACTS)
        self.answers(desk, ("far main 1 w r", "3"), ("claim main 1 w r 5", "-"), ("slack main 0 0", "endless 0"), ("number main 0 0 2", "0"),
                     ("back", "number main 0 0 2"), ("ring main w r", "3"))

    def test_a_new_desk(self):
        self.answers(loop_desk(), ("log", "0"), ("claims", "-"), ("program", LOOP), ("facts", "names r w\nr 0 5\nr w 0\nw 0 7\nw r 2"), ("weakest", "names r w"),
                     ("slack main 0 0", "endless endless"))
        with self.assertRaises(Unlike):
            Desk(loop_program(), Facts(["r"]))
        for line in ("back", "again"):
            self.raises(Nothing, loop_desk(), line)

    def test_deeds(self):
        desk = loop_desk()
        self.answers(desk, ("claim main 1 w r 3", "-"), ("claim main 0 w r 1", "1"), ("claim main 0 0 0 -1", "1,2"),
                     ("claims", "main 1 w r 3 yes\nmain 0 w r 1 no\nmain 0 0 0 -1 no"), ("log", "3"), ("weakest", "none"), ("drop 2", "1"), ("weakest", "names r w\nw r 1"),
                     ("fact w r 1", "-"), ("facts", "names r w\nr 0 5\nr w 0\nw 0 6\nw r 1"), ("number main 0 0 2", "0,1"),
                     ("program", LOOP.replace("w=w+1", "w=w+2")), ("way main 1 1 call main 0+1,w-2 -", "0,1"),
                     ("program", LOOP.replace("w=w+1", "w=w+2") + "\n1 1 call main 0+1,w-2 -"), ("out main 0", "-"), ("log", "8"),
                     ("back", "out main 0"), ("back", "way main 1 1 call main 0+1,w-2 -"), ("again", "way main 1 1 call main 0+1,w-2 -"), ("back", "way main 1 1 call main 0+1,w-2 -"),
                     ("back", "number main 0 0 2"), ("log", "5"), ("claims", "main 1 w r 3 yes\nmain 0 w r 1 yes"), ("again", "number main 0 0 2"),
                     ("fact 0 w -3", "0,1"), ("drop 1", "0"), ("claims", "main 1 w r 3 no"), ("back", "drop 1"), ("claim main 1 0 w -3", "0,1"))
        self.raises(Nothing, desk, "again")
        self.answers(desk, ("log", "8"), ("back", "claim main 1 0 w -3"), ("back", "fact 0 w -3"), ("back", "number main 0 0 2"), ("back", "fact w r 1"), ("back", "drop 2"),
                     ("back", "claim main 0 0 0 -1"), ("back", "claim main 0 w r 1"), ("back", "claim main 1 w r 3"), ("program", LOOP), ("claims", "-"), ("log", "0"))

    def test_far(self):
        down = Desk(down_program(), Facts(["a"]))
        self.answers(down, ("far main 1 b a", "endless"), ("far main 1 a b", "-3"), ("far deep 0 m 0", "0"), ("far deep 0 0 0", "0"), ("far deep 0 0 n", "endless"))
        unused = Desk(Program({"main": Procedure({"a": "plain"}, ["a"], [], 3, [(0, 1, ("set", [("a", "a", BIG)]))])}, "main"), Facts(["a"], [("a", "", BIG)]))
        self.answers(unused, ("far main 2 a 0", "never"), ("far main 2 0 0", "never"), ("far main 1 a 0", str(2 * BIG)), ("far main 1 0 a", "endless"))

    def test_slack(self):
        desk = loop_desk("claim main 1 w r 5")
        self.answers(desk, ("slack main 0 0", "endless 0"), ("slack main 1 0", "0 endless"), ("claim main 1 r w 0", "-"), ("slack main 0 0", "0 0"), ("slack main 1 0", "0 0"),
                     ("claim main 1 w r 2", "2"), ("slack main 0 0", "none"), ("slack main 1 0", "none"), ("drop 2", "-"), ("number main 0 0 3", "0"),
                     ("slack main 0 0", "-2 -2"), ("slack main 1 0", "2 2"), ("drop 0", "-"), ("drop 0", "-"), ("slack main 1 0", "endless endless"))

    def test_weakest_and_ring(self):
        desk = loop_desk("claim main 1 w r 9", "claim main 0 r w 0")
        self.answers(desk, ("weakest", "names r w\nr w 0\nw r 8"), ("claim main 0 r 0 20", "2"), ("weakest", "none"))
        self.answers(desk, ("ring main w r", "3"), ("ring main r w", "none"), ("ring main w w", "0"), ("ring main 0 0", "0"), ("ring main w 0", "none"))
        nothing = Program({"main": Procedure({}, [], [], 1, []), "f": Procedure({"a": "plain"}, [], [], 2, [])}, "main")
        self.answers(Desk(nothing, Facts([])), ("ring f a 0", "0"), ("ring main 0 0", "0"), ("weakest", "names -"), ("facts", "names -"), ("far f 0 a 0", "never"))

    def test_errors_of_what_is_asked(self):
        book = small_book()
        desk = Desk(book.program, book.facts)
        for line, error, field, thing in [
                ("far x 9 z z", NoProc, "name", "x"), ("far main 2 z z", NoPlace, "place", 2), ("far main 1 z y", NoName, "name", "z"), ("far main 1 l y", NoName, "name", "y"),
                ("far main 1 l h", NotFar, "name", "l"), ("far main 1 h h", NotFar, "name", "h"), ("slack x 9 9", NoProc, "name", "x"), ("slack main 2 9", NoWay, "index", 2),
                ("slack main 1 0", NoEntry, "many", 0), (f"slack f 0 {BIG}", NoEntry, "many", BIG), ("ring x z z", NoProc, "name", "x"), ("ring main z y", NoName, "name", "z"),
                ("ring main l h", NotFar, "name", "l"), ("ring main h l", NotFar, "name", "h"), ("ring f p l", NotFar, "name", "l"), ("ring main p h", NotFar, "name", "h"),
                ("out g 0", Refused, "deed", ("out", "g", 0)), ("drop 0", Refused, "deed", ("drop", 0)), ("fact h 0 1", Refused, "deed", ("fact", "h", "", 1)),
                ("claim main 0 l p 0", Refused, "deed", ("claim", ("main", 0, "l", "p", 0))), ("number main 1 0 5", Refused, "deed", ("number", "main", 1, 0, 5)),
                ("way main 0 1 set p=h+1", Refused, "deed", ("way", "main", 0, 1, ("set", (("p", "h", 1),))))]:
            self.assertEqual(getattr(self.raises(error, desk, line), field), thing, line)

    def test_full(self):
        desk = loop_desk(*[f"number main 0 0 {at}" for at in range(100)])
        self.assertEqual(self.raises(Full, desk, "drop 9").most, 100)
        self.raises(Full, desk, "claim main 0 w r 0")
        self.answers(desk, ("log", "100"), ("back", "number main 0 0 99"), ("log", "99"), ("again", "number main 0 0 99"))
        self.raises(NoCommand, desk, "drop -1")

    def test_no_command(self):
        desk = loop_desk("claim main 1 w r 5")
        for line in LINES:
            words = line.split(" ")
            others = [line + " ", " " + line, line + " 0", line + " w", line + "\n", "\n" + line, line.upper(), line.capitalize(), "s" + line, line.replace(" ", "  "),
                      line + " " + line, line.replace(" ", "\n"), line.replace(" ", ","), line + " -", line + "."]
            others += [" ".join(words[:at] + words[at + 1:]) for at in range(len(words))]
            others += [" ".join(words[:at] + [word] + words[at + 1:]) for at in range(1, len(words)) for word in ("", "W", "-", "01", "+1", "*", "ninechars")]
            for other in others:
                if other not in LINES and not right_deed(other):
                    self.raises(NoCommand, desk, other)
        for line in ["far main -1 w r", "far main x w r", "far 0 1 w r", "far main 1 w 1", "slack main 0 -1", "slack main w 0", "ring 0 w r", "ring main w 5", "far main 1 w r 0",
                     f"far main {10 ** 60} w r", f"slack main {10 ** 60} 0", f"fact w r {10 ** 60}", f"fact w r -{10 ** 60}", "drop 1,2", "claim main 1 w r", "log 0", "names r w",
                     LOOP, "skip", "set w=w+1", "main 1 w r 5", "names r w\nr 0 5", "do", "help", "", " ", "\n", "-", "0", "execute log", "wayward", "broken", "past 0", "copied"]:
            self.raises(NoCommand, desk, line)
        for thing in junk() + [["log"], ("log",), {"log": 1}, b"log", 5, deep(), desk, FACTS, ("drop", 0), ("claim", ("main", 1, "w", "r", 5))]:
            if not isinstance(thing, str) or thing not in LINES:
                self.raises(NoCommand, desk, thing)
        self.answers(desk, ("log", "1"), ("claims", "main 1 w r 5 yes"))

    def test_against_a_book(self):
        rng = random.Random(920)
        seen = {"done": 0, "raised": 0, "endless": 0, "none": 0}
        for _ in range(25):
            program = wide_program(rng, most=2)
            facts = wide_facts(rng, program)
            desk, book = Desk(program, facts), Book(program, facts)
            for _ in range(12):
                deed = random_deed(rng, book)
                try:
                    told = book.do(deed)
                    self.assertEqual(desk.execute(show_deed(deed)), ",".join(str(at) for at in told) or "-")
                    seen["done"] += 1
                except ApartError as error:
                    self.raises(type(error), desk, show_deed(deed))
                    seen["raised"] += 1
                if rng.random() < 0.2 and len(book):
                    self.assertEqual(desk.execute("back"), show_deed(book.back()))
            claims = "\n".join(show_claim(claim) + (" no" if at in book.broken() else " yes") for at, claim in enumerate(book.claims())) or "-"
            self.answers(desk, ("program", show_program(book.program)), ("facts", show_facts(book.facts)), ("log", str(len(book))), ("claims", claims),
                         ("weakest", "none" if book.weakest() is None else show_facts(book.weakest())))
            for name in book.program.names():
                x, y = rng.choice(program[name].uppers()), rng.choice(program[name].lowers())
                for place in range(program[name].size):
                    most = far(book.program, book.facts, (name, place, x, y))
                    line = f"far {name} {place} {x or 0} {y or 0}"
                    self.answers(desk, (line, "never" if most is None else str(most)))
                if {program[name].kind(x), program[name].kind(y)} == {"plain"}:
                    size = ring_size(book.program, book.facts, [(name, place, x, y) for place in range(program[name].size)])
                    self.answers(desk, (f"ring {name} {x or 0} {y or 0}", written(size)))
                for index, (_, _, statement) in enumerate(book.program[name].ways()):
                    if numbers(statement):
                        found = slack(book.program, book.facts, book.claims(), name, index, 0)
                        answer = "none" if found is None else f"{found[0]} {found[1]}"
                        self.answers(desk, (f"slack {name} {index} 0", answer))
                        seen["none" if found is None else "endless"] += 1
        self.assertTrue(min(seen.values()) > 10, seen)

    def test_two_desks_by_turns_and_twice(self):
        one, other = loop_desk(), Desk(turns_program(), Facts(["p", "q"]))
        for _ in range(2):
            self.answers(one, ("far main 1 w r", "3"), ("log", "0"))
            self.answers(other, ("far even 0 p p", "0"), ("log", "0"), ("claim even 0 p p -1", "0"), ("weakest", "none"), ("back", "claim even 0 p p -1"))
            self.answers(one, ("claims", "-"), ("fact w r 2", "-"), ("back", "fact w r 2"))
        again = loop_desk()
        self.answers(again, ("fact w r 0", "-"), ("far main 1 w r", "1"))
        self.answers(one, ("far main 1 w r", "3"))


if __name__ == "__main__":
    unittest.main()
