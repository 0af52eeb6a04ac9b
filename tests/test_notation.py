"""Promise [91]: notation."""

import copy
import random
import re
import unittest

from oracle import some_claims, wide_facts, wide_program
from samples import down_program, loop_program, turns_program
from test_book import random_deed

from farapart.book import Book
from farapart.errors import NoText
from farapart.facts import Facts
from farapart.notation import (read_claim, read_deed, read_facts, read_procedure, read_program, read_statement, show_claim,
                               show_deed, show_facts, show_procedure, show_program, show_statement)
from farapart.procedures import Procedure
from farapart.programs import Program
from farapart.statements import frozen, is_statement

FACTS = Facts(["r", "w"], [("w", "r", 2), ("r", "w", 0), ("r", "", 5)])
SIXTY = 10 ** 60 - 1
READERS = [read_statement, read_procedure, read_program, read_facts, read_claim, read_deed]

STATEMENTS = [
    (("skip",), "skip"), (("set", []), "set -"), (("set", [("x", "y", 1)]), "set x=y+1"),
    (("set", [("x", "", -3), ("a", "x", 0), ("y", "", SIXTY)]), f"set x=0-3 a=x+0 y=0+{SIXTY}"),
    (("most", "h", [("w", 1)]), "most h w+1"), (("most", "set", [("w", 1), ("", -3), ("r", 0), ("w", 1)]), "most set w+1 0-3 r+0 w+1"),
    (("least", "l", [("", -SIXTY)]), f"least l 0-{SIXTY}"), (("call", "f", [], []), "call f - -"),
    (("call", "call", [("a", 3)], []), "call call a+3 -"), (("call", "f", [], ["b"]), "call f - b"),
    (("call", "deep", [("", 0), ("b", -1)], ["c", "a"]), "call deep 0+0,b-1 c,a"),
    (("call", "abcdefgh", [("b", 1), ("b", 1), ("b", 10)], ["skip", "set", "z"]), "call abcdefgh b+1,b+1,b+10 skip,set,z"),
]
CLAIMS = [(("main", 0, "x", "y", 0), "main 0 x y 0"), (("f", SIXTY, "", "", -SIXTY), f"f {SIXTY} 0 0 -{SIXTY}"),
          (("claim", 12, "abcdefgh", "", 7), "claim 12 abcdefgh 0 7"), (("a", 1, "a", "a", -10), "a 1 a a -10")]
DEEDS = [
    (("way", "main", 0, 1, ("skip",)), "way main 0 1 skip"), (("way", "way", 10, 0, ("call", "f", [("", 1)], ["a"])), "way way 10 0 call f 0+1 a"),
    (("way", "f", 1, 1, ("set", [])), "way f 1 1 set -"), (("out", "main", 3), "out main 3"), (("out", "out", SIXTY), f"out out {SIXTY}"),
    (("number", "main", 0, 1, -2), "number main 0 1 -2"), (("number", "f", 10, 0, 0), "number f 10 0 0"),
    (("fact", "", "x", -5), "fact 0 x -5"), (("fact", "x", "", SIXTY), f"fact x 0 {SIXTY}"), (("fact", "", "", 0), "fact 0 0 0"),
    (("drop", 0), "drop 0"), (("drop", 27), "drop 27"),
] + [(("claim", claim), "claim " + text) for claim, text in CLAIMS]
FIRST = "names h:high l:low p:plain\nparams p,h\nresults l\nplaces 3\n0 1 most h p+1 0-2\n2 2 call f - -\n1 0 set -"
PROCEDURES = [
    (Procedure({}, [], [], 1, []), "names -\nparams -\nresults -\nplaces 1"),
    (Procedure({"p": "plain", "l": "low", "h": "high"}, ["p", "h"], ["l"], 3,
               [(0, 1, ("most", "h", [("p", 1), ("", -2)])), (2, 2, ("call", "f", [], [])), [1, 0, ("set", ())]]), FIRST),
    (Procedure({"a": "plain"}, ["a"], ["a"], SIXTY, [(SIXTY - 1, 0, ("skip",))]), f"names a:plain\nparams a\nresults a\nplaces {SIXTY}\n{SIXTY - 1} 0 skip"),
]
LOOP = "first main\nprocedure main\nnames r:plain w:plain\nparams w,r\nresults -\nplaces 2\n0 1 set w=w+1\n1 0 set r=r+1"
DOWN = ("first main\nprocedure deep\nnames m:plain n:plain\nparams n\nresults m\nplaces 2\n0 1 call deep n+1 m\n0 1 set m=n+0\n"
        "procedure main\nnames a:plain b:plain\nparams a\nresults -\nplaces 2\n0 1 call deep a+3 b")
FACT_TEXTS = [(FACTS, "names r w\nr 0 5\nr w 0\nw 0 7\nw r 2"), (Facts([]), "names -"), (Facts(["b", "a"]), "names a b"),
              (Facts(["a"], [("", "a", SIXTY)]), f"names a\n0 a {SIXTY}"), (Facts(["names"], [("names", "", -1)]), "names names\nnames 0 -1")]

NAME, COUNT, INTEGER, SOURCE = "[a-z]{1,8}", "(?:0|[1-9][0-9]{0,59})", "(?:0|-?[1-9][0-9]{0,59})", "(?:0|[a-z]{1,8})"
PART = f"{SOURCE}(?:[+]{COUNT}|-[1-9][0-9]{{0,59}})"
STATEMENT = (f"(?:skip|set -|set(?: {NAME}={PART})+|(?:most|least) {NAME}(?: {PART})+|"
             f"call {NAME} (?:-|{PART}(?:,{PART})*) (?:-|{NAME}(?:,{NAME})*))")
CLAIM = f"{NAME} {COUNT} {SOURCE} {SOURCE} {INTEGER}"
DEED = (f"(?:way {NAME} {COUNT} {COUNT} {STATEMENT}|out {NAME} {COUNT}|number {NAME} {COUNT} {COUNT} {INTEGER}|"
        f"fact {SOURCE} {SOURCE} {INTEGER}|claim {CLAIM}|drop {COUNT})")


def sets_twice(text):
    """Whether a statement that is at the end of a text sets a name twice."""
    names = re.findall(f"({NAME})=", text)
    call = re.search(f"call {NAME} [^ ]+ ([^ ]+)$", text)
    names += call.group(1).split(",") if call else []
    return len(set(names)) < len(names)


def right_statement(text):
    return re.fullmatch(STATEMENT, text) is not None and not sets_twice(text)


def right_claim(text):
    return re.fullmatch(CLAIM, text) is not None


def right_deed(text):
    return re.fullmatch(DEED, text) is not None and not (text.startswith("way") and sets_twice(text))


def turned(rng, text):
    """A text with something put otherwise: a sign, a word or a line more, less, twice or turned about."""
    way = rng.randrange(9)
    at = rng.randint(0, len(text))
    sign = rng.choice(" \n-+,:=.0129aAz*<[_\t~")
    if way == 0:
        return text[:at] + sign + text[at:]
    if way == 1:
        return text[:at] + text[at + 1:]
    if way == 2:
        return text[:at] + sign + text[at + 1:]
    for parting in (" ", "\n") if way % 2 else ("\n", " "):
        words = text.split(parting)
        if len(words) > 1:
            first, second = rng.randrange(len(words)), rng.randrange(len(words))
            if way < 5:
                words[first], words[second] = words[second], words[first]
            elif way < 7:
                words.insert(first, words[second])
            else:
                words.pop(first)
            return parting.join(words)
    return text + sign


class NotationTest(unittest.TestCase):
    def refuses(self, read, text):
        with self.assertRaises(NoText) as caught:
            read(text)
        self.assertIs(type(caught.exception), NoText, text)

    def test_statements(self):
        for statement, text in STATEMENTS:
            for some in (statement, frozen(statement)):
                self.assertEqual([show_statement(some), read_statement(text)], [text, frozen(statement)])
            self.assertTrue(right_statement(text))

    def test_claims_and_deeds(self):
        for claim, text in CLAIMS:
            self.assertEqual([show_claim(claim), read_claim(text)], [text, claim])
        for deed, text in DEEDS:
            kept = deed[:4] + (frozen(deed[4]),) if deed[0] == "way" else deed
            self.assertEqual([show_deed(deed), show_deed(kept), read_deed(text)], [text, text, kept])

    def test_procedures_programs_and_facts(self):
        for procedure, text in PROCEDURES:
            self.assertEqual([show_procedure(procedure), read_procedure(text)], [text, procedure])
        for program, text in [(loop_program(), LOOP), (down_program(), DOWN)]:
            self.assertEqual([show_program(program), read_program(text)], [text, program])
        other = Program({"z": PROCEDURES[0][0], "f": PROCEDURES[0][0], "procedur": PROCEDURES[1][0]}, "z")
        text = "first z\nprocedure f\n" + PROCEDURES[0][1] + "\nprocedure procedur\n" + FIRST + "\nprocedure z\n" + PROCEDURES[0][1]
        self.assertEqual([show_program(other), read_program(text)], [text, other])
        for facts, text in FACT_TEXTS:
            self.assertEqual([show_facts(facts), read_facts(text)], [text, facts])
            self.assertIsInstance(read_facts(text), Facts)

    def test_the_example(self):
        self.assertEqual([show_procedure(loop_program()["main"]).split("\n")[:3], show_facts(FACTS).split("\n")[1]],
                         [["names r:plain w:plain", "params w,r", "results -"], "r 0 5"])

    def test_random_things_both_ways(self):
        rng = random.Random(910)
        for _ in range(60):
            program = wide_program(rng)
            facts = wide_facts(rng, program)
            self.assertEqual(read_program(show_program(program)), program)
            self.assertEqual(read_facts(show_facts(facts)), facts)
            for name in program.names():
                self.assertEqual(read_procedure(show_procedure(program[name])), program[name])
                for _, _, statement in program[name].ways():
                    self.assertEqual(read_statement(show_statement(statement)), statement)
                    self.assertTrue(right_statement(show_statement(statement)))
            for claim in some_claims(rng, program, facts, 3):
                self.assertEqual(read_claim(show_claim(claim)), claim)
            book = Book(program, facts)
            for _ in range(6):
                deed = random_deed(rng, book)
                kept = deed[:4] + (frozen(deed[4]),) if deed[0] == "way" else deed
                self.assertEqual(read_deed(show_deed(deed)), kept)
                self.assertTrue(right_deed(show_deed(deed)))

    def test_texts_put_otherwise(self):
        """Of statements, claims and deeds, by what such texts look like."""
        rng = random.Random(911)
        seen = {True: 0, False: 0}
        for read, show, right, texts in [(read_statement, show_statement, right_statement, STATEMENTS), (read_claim, show_claim, right_claim, CLAIMS),
                                         (read_deed, show_deed, right_deed, DEEDS)]:
            for _, text in texts * 60:
                for _ in range(rng.randint(1, 2)):
                    text = turned(rng, text)
                seen[right(text)] += 1
                if right(text):
                    self.assertEqual(show(read(text)), text)
                else:
                    self.refuses(read, text)
        self.assertTrue(min(seen.values()) > 150, seen)

    def test_longer_texts_put_otherwise(self):
        """What is read of a text is shown as the very text, and what is not read is refused."""
        rng = random.Random(912)
        seen = {"read": 0, "refused": 0}
        for read, show, texts in [(read_procedure, show_procedure, [text for _, text in PROCEDURES]), (read_program, show_program, [LOOP, DOWN]),
                                  (read_facts, show_facts, [text for _, text in FACT_TEXTS])]:
            for text in texts * 120:
                text = turned(rng, text)
                try:
                    self.assertEqual(show(read(text)), text)
                    seen["read"] += 1
                except NoText:
                    seen["refused"] += 1
        self.assertTrue(min(seen.values()) > 40, seen)

    def test_integers(self):
        for c, good in [(0, "0"), (-1, "-1"), (10 ** 59, "1" + "0" * 59), (SIXTY, "9" * 60), (-SIXTY, "-" + "9" * 60)]:
            self.assertEqual([read_claim(f"f 0 x y {good}"), read_deed(f"fact x y {good}")], [("f", 0, "x", "y", c), ("fact", "x", "y", c)])
            sign = "" if c < 0 else "+"
            self.assertEqual(read_statement(f"set x=y{sign}{good}"), ("set", (("x", "y", c),)))
            self.assertEqual(read_facts(f"names a\na 0 {good}").greatest("a", ""), c)
        for bad in ["-0", "00", "+1", "01", "-01", "", "-", "+", "--1", "1-", "1.0", "1e3", "1_0", " 1", "1 ", "9" * 61, "-" + "9" * 61, "0" * 60,
                    "0x1", "a", "one", "9" * 9999]:
            for read, text in [(read_claim, f"f 0 x y {bad}"), (read_deed, f"fact x y {bad}"), (read_deed, f"number f 0 0 {bad}"),
                               (read_facts, f"names a\na 0 {bad}"), (read_deed, f"claim f 0 x y {bad}")]:
                self.refuses(read, text)
            for sign in "+-":
                self.refuses(read_statement, f"set x=y{sign}{bad}")
                self.refuses(read_statement, f"call f y{sign}{bad} -")
        self.refuses(read_statement, "set x=y-0")
        self.refuses(read_statement, "most x 0-0")
        for bad in ["-1", "-0", "00", "01", "+1", "", "-", "1" + "0" * 60, "x"]:
            for read, text in [(read_claim, f"f {bad} x y 0"), (read_deed, f"drop {bad}"), (read_deed, f"out f {bad}"), (read_deed, f"way f {bad} 0 skip"),
                               (read_deed, f"way f 0 {bad} skip"), (read_deed, f"number f {bad} 0 0"), (read_deed, f"number f 0 {bad} 0"),
                               (read_procedure, f"names -\nparams -\nresults -\nplaces {bad}"),
                               (read_procedure, f"names -\nparams -\nresults -\nplaces 3\n{bad} 0 skip"),
                               (read_procedure, f"names -\nparams -\nresults -\nplaces 3\n0 {bad} skip")]:
                self.refuses(read, text)
        self.refuses(read_procedure, "names -\nparams -\nresults -\nplaces 0")

    def test_bad_statements(self):
        for text in ["skip -", "skip ", " skip", "skip\n", "Skip", "SKIP", "set", "set ", "set  -", "set - -", "set - x=y+1", "set x=y+1 -", "set x=y",
                     "set x=+1", "set x=y+1,z=y+1", "set x=y+1  z=y+1", "set x=y+1 x=z+2", "set 0=y+1", "set =y+1", "set x=y=z+1", "set x==y+1", "set x y+1",
                     "set x=Y+1", "set x=y +1", "set x=y+ 1", "set x=abcdefghi+1", "most", "most h", "most h -", "most h x", "most 0 x+1", "most h x+1,y+2",
                     "most x+1", "most h h=x+1", "least l", "least l -", "least", "least l x+1 ", "Most h x+1", "call", "call f", "call f -", "call f - - -",
                     "call f - x,x", "call f - 0", "call f x -", "call f x+1, -", "call f ,x+1 -", "call f x+1 ,y", "call f x+1 y,", "call f x+1 y z",
                     "call 0 - -", "call F - -", "call - - -", "call f -,- -", "call f - -,-", "call f 0 -", "call f x+1,- -", "call f  - -", "call f - - ",
                     "let x=y+1", "", " ", "-", "0", "\n", "set x=y+1\n", "set\nx=y+1", "call f -\n-", "skip skip", "f - -", "0 1 skip"]:
            self.assertFalse(right_statement(text), text)
            self.refuses(read_statement, text)
            self.refuses(read_deed, "way f 0 1 " + text)
            if "\n" not in text:
                self.refuses(read_procedure, "names x:plain y:plain z:plain\nparams -\nresults -\nplaces 2\n0 1 " + text)

    def test_bad_claims_and_deeds(self):
        for text in ["", " ", "main", "main 0 x y", "main 0 x y 0 0", "main  0 x y 0", " main 0 x y 0", "main 0 x y 0 ", "main 0 x y 0\n", "main 0 x 1 0",
                     "0 0 x y 0", "Main 0 x y 0", "main 0 X y 0", "main 0 - y 0", "main 0 x  0", "main x 0 y 0", "main,0,x,y,0", "main 0 00 y 0", "abcdefghi 0 x y 0",
                     "main 0 x * 0", "main\n0 x y 0"]:
            self.refuses(read_claim, text)
            self.refuses(read_deed, "claim " + text)
        for text in ["", " ", "claim", "way", "out", "number", "fact", "drop", "way f 0 1", "way f 0 skip", "way 0 0 1 skip", "out f", "out f 0 0", "out 0 0",
                     "number f 0 0", "number f 0 0 0 0", "number 0 0 0 0", "fact x y", "fact x y 0 0", "fact x 0", "fact x 1 0", "drop", "drop 0 0", "drop f",
                     "Drop 0", "DROP 0", "drop 0 ", " drop 0", "drop  0", "drop 0\n", "drops 0", "back", "again", "main 0 x y 0", "claims main 0 x y 0",
                     "out  f 0", "out f  0", "out f\n0"]:
            self.assertFalse(right_deed(text), text)
            self.refuses(read_deed, text)

    def test_bad_procedures(self):
        lines = FIRST.split("\n")
        self.assertEqual(read_procedure("\n".join(lines[:4])), Procedure({"p": "plain", "l": "low", "h": "high"}, ["p", "h"], ["l"], 3, []))
        for at in range(4):
            for other in (lines[:at] + lines[at + 1:], lines[:at] + [""] + lines[at:], lines[:at] + [lines[at]] + lines[at:],
                          lines[:at] + [lines[at] + " "] + lines[at + 1:], lines[:at] + [lines[at].upper()] + lines[at + 1:],
                          lines[:at] + [lines[at].replace(" ", "  ")] + lines[at + 1:], lines[:at] + [lines[at].split(" ")[0]] + lines[at + 1:],
                          lines[:at] + [" " + lines[at]] + lines[at + 1:], lines[:at] + [lines[at].split(" ")[1]] + lines[at + 1:]):
                self.refuses(read_procedure, "\n".join(other))
        for at, others in [
                (0, ["names l:low h:high p:plain", "names h:high p:plain", "names h:high l:low p:plain p:plain", "names h:high l:low p:plain p:low",
                     "names h:high l:low p:flat", "names h:high l:low p:", "names h:high l:low p", "names h:high,l:low,p:plain", "names h:high l:low p:plain -",
                     "names - h:high l:low p:plain", "names h:high l:low p:plain:plain", "names h:High l:low p:plain", "names h:low l:low p:plain",
                     "names h:high l:low P:plain p:plain", "names 0:plain h:high l:low p:plain", "names h:high l:low p=plain", "names -"]),
                (1, ["params p h", "params p,h,", "params p,p", "params p,z", "params ,", "params 0", "params -,p", "params p,-", "params", "results p,h"]),
                (2, ["results l,l", "results z", "results", "results L", "results l ,p", "params l"]),
                (3, ["places", "places 2", "places 3 3", "places -", "places x", "place 3", "places 3,"]),
                (4, ["0 1 most p p+1", "0 1 most h l+1", "0 3 most h p+1", "3 0 most h p+1", "0 1", "0", "", "0 1 most h z+1", "01 1 skip", "0 1 skip ", "0 1  skip",
                     "0,1 skip", "0 1 Skip", "0 1 call f 0+0,z+1 -", "0 1 set p=h+0", "skip"])]:
            for line in others:
                self.refuses(read_procedure, "\n".join(lines[:at] + [line] + lines[at + 1:]))
        for text in ["", "\n", "-", FIRST + "\n", "\n" + FIRST, FIRST + "\n\n", "procedure f\n" + FIRST, FIRST.replace("\n", " "), "names -", "names -\nparams -\nresults -"]:
            self.refuses(read_procedure, text)

    def test_bad_programs(self):
        blocks = DOWN.split("\nprocedure ")
        for text in ["", "\n", "first main", "first main\n", LOOP + "\n", "\n" + LOOP, " " + LOOP, LOOP.replace("first main", "first f"), LOOP.replace("first main", "first"),
                     LOOP.replace("first main", "first main main"), LOOP.replace("first main\n", ""), LOOP.replace("procedure main\n", ""), LOOP.replace("procedure", "proc"),
                     LOOP.replace("procedure main", "procedure"), LOOP.replace("procedure main", "procedure Main"), LOOP.replace("procedure main", "procedure main main"),
                     LOOP.replace("procedure main", "procedure  main"), LOOP.replace("first main", "First main"), LOOP.replace("\n", "\n\n"), "first main\nprocedure main",
                     LOOP + "\nprocedure main" + LOOP.split("procedure main")[1], "\nprocedure ".join([blocks[0], blocks[2], blocks[1]]), "\nprocedure ".join(blocks[:2]),
                     "\nprocedure ".join([blocks[0], blocks[2]]), DOWN.replace("call deep a+3 b", "call deep a+3,a+3 b"), DOWN.replace("call deep a+3 b", "call deep a+3 -"),
                     DOWN.replace("call deep a+3 b", "call other a+3 b"), DOWN.replace("m:plain", "m:high"), DOWN + "\nprocedure", DOWN + "\nprocedure x",
                     "first main\n0 1 skip\n" + LOOP.split("\n", 1)[1]]:
            self.refuses(read_program, text)
        self.assertEqual(read_program("first main\nprocedure main\n" + PROCEDURES[0][1]), Program({"main": PROCEDURES[0][0]}, "main"))

    def test_bad_facts(self):
        for text in ["", "names", "names ", "-", "names r,w", "names w r", "names r r", "names r w ", "names R w", "names 0 r", "names r w -", "names - r", "Names r w", "names  r w",
                     "names r w\n", "\nnames r w", "names r w\nr 0", "names r w\nr 0 5 5", "names r w\nr 0 5\n", "names r w\n\nr 0 5", "names r w\nr z 5", "names r w\nr  0 5",
                     # Not ascending, not closed, of one and the same, twice, and such as no start keeps.
                     "names r w\nw 0 5\nr 0 5", "names r w\nr 0 5\nw r 2", "names r w\nr 0 5\nw 0 8\nw r 2", "names r w\nr r 0", "names r w\n0 0 0", "names r w\nr 0 5\nr 0 5",
                     "names r w\nr 0 5\nr 0 4", "names r w\nr w -1\nw r 0", "names r\n0 r -1\nr 0 0", "names r w\nr r -1", "names r w\nr 0 x", "names r w\nr\n0 5", "r 0 5", "names -\n0 0 0",
                     "names - ", "names -\n"]:
            self.refuses(read_facts, text)
        self.assertEqual(read_facts("names r w\nr 0 5\nw 0 8"), Facts(["w", "r"], [("w", "", 8), ("r", "", 5)]))
        self.assertEqual(read_facts("names r\n0 r -1\nr 0 1"), Facts(["r"], [("r", "", 1), ("", "r", -1)]))

    def test_what_is_no_text_of_one_is_none_of_another(self):
        texts = [STATEMENTS[2][1], FIRST, LOOP, FACT_TEXTS[0][1], CLAIMS[0][1], DEEDS[0][1]]
        for at, text in enumerate(texts):
            for other, read in enumerate(READERS):
                if at == other:
                    read(text)
                else:
                    self.refuses(read, text)

    def test_what_is_handed_in_and_told(self):
        for show, things in [(show_statement, STATEMENTS), (show_claim, CLAIMS), (show_deed, DEEDS)]:
            for thing, text in things:
                kept = copy.deepcopy(thing)
                self.assertEqual([show(thing), show(thing), thing], [text, text, kept])
        for read in READERS:
            for text in [STATEMENTS[4][1], FIRST, LOOP, FACT_TEXTS[0][1], CLAIMS[0][1], DEEDS[0][1]]:
                try:
                    self.assertEqual(read(text), read(text))
                except NoText:
                    self.refuses(read, text)
        for _, text in STATEMENTS:
            self.assertTrue(is_statement(read_statement(text)))
        self.assertEqual(read_program(show_program(turns_program())), turns_program())


if __name__ == "__main__":
    unittest.main()
