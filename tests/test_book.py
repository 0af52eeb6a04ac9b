"""Promise [90]: books."""

import copy
import random
import unittest

from oracle import some_claims, wide_facts, wide_program, wide_statement
from samples import deep, down_program, junk, loop_program

from farapart.book import Book
from farapart.claims import broken
from farapart.errors import Full, NoDeed, NoEntry, Nothing, Refused, Unlike
from farapart.facts import Facts
from farapart.procedures import Procedure
from farapart.programs import Program
from farapart.weakest import weakest

FACTS = Facts(["r", "w"], [("w", "r", 2), ("r", "w", 0), ("r", "", 5)])
BIG = 10 ** 40 - 7
KINDS = {"h": "high", "l": "low", "p": "plain", "q": "plain"}

DEEDS = [
    ("way", "main", 1, 0, ("set", [("r", "r", 2)])), ("out", "main", 1), ("number", "main", 0, 0, -BIG),
    ("fact", "w", "", 9), ("claim", ("main", 0, "w", "r", 2)), ("claim", ("main", 1, "w", "", BIG)), ("drop", 0),
]


def small_book():
    """A book of a program with a call, names of all kinds, and one that is not called."""
    main = Procedure(KINDS, ["p", "q"], ["h"], 2, [(0, 1, ("call", "f", [("p", 1)], ["h"])), (0, 1, ("skip",))])
    f = Procedure(KINDS, ["p"], ["h"], 2, [(0, 1, ("most", "h", [("p", 2), ("", 3)]))])
    return Book(Program({"main": main, "f": f}, "main"), Facts(["p", "q"], [("p", "q", 1)]))


def loop_book(*deeds):
    book = Book(loop_program(), FACTS)
    for deed in deeds:
        book.do(deed)
    return book


def state_of(book):
    return (book.program, book.facts, book.claims(), book.log(), len(book), book.broken())


def undone_of(book):
    """The deeds that can be done again, the next one first."""
    other, found = book.copied(), []
    try:
        while True:
            found.append(other.again())
    except Nothing:
        return found


def frozen_deed(deed):
    return deed if deed[0] != "way" else deed[:4] + (tuple(tuple(x) if isinstance(x, list) else x for x in deed[4]),)


def random_deed(rng, book):
    program, facts = book.program, book.facts
    name = rng.choice(program.names())
    procedure = program[name]
    index = rng.randint(0, len(procedure))
    word = rng.choice(["way", "way", "out", "number", "number", "fact", "claim", "claim", "drop"])
    if word == "way":
        heads = {other: ({x: program[other].kind(x) for x in program[other].names()}, program[other].params, program[other].results)
                 for other in program.names()}
        statement = wide_statement(rng, heads[name][0], heads, 0.2, -3, 3)
        return (word, name, rng.randrange(procedure.size), rng.randint(0, procedure.size), statement)
    if word == "out":
        return (word, name, index)
    if word == "number":
        return (word, name, index, rng.randint(0, 2), rng.choice([-1, 0, 2, BIG]))
    if word == "fact":
        sources = [""] + facts.names()
        return (word, rng.choice(sources), rng.choice(sources), rng.randint(-1, 4))
    return (word, some_claims(rng, program, facts, 1)[0]) if word == "claim" else (word, rng.randint(0, 4))


class Stop(Exception):
    pass


class BookTest(unittest.TestCase):
    def raises(self, error, call, *given):
        with self.assertRaises(error) as caught:
            call(*given)
        self.assertIs(type(caught.exception), error)
        return caught.exception

    def refuses(self, book, deed):
        before, undone = state_of(book), undone_of(book)
        self.assertEqual(self.raises(Refused, book.do, deed).deed, frozen_deed(deed), deed)
        self.assertEqual([state_of(book), undone_of(book)], [before, undone])

    def test_a_new_book(self):
        book = Book(loop_program(), FACTS)
        self.assertEqual(state_of(book), (loop_program(), FACTS, [], [], 0, []))
        self.assertEqual([book.weakest(), undone_of(book)], [Facts(["r", "w"]), []])
        self.raises(Unlike, Book, loop_program(), Facts(["r"]))
        self.raises(Unlike, Book, down_program(), FACTS)

    def test_each_deed(self):
        loop = loop_program()
        expected = [loop["main"].with_way((1, 0, ("set", [("r", "r", 2)]))), loop["main"].without_way(1), loop["main"].with_number(0, 0, -BIG)]
        for deed, procedure in zip(DEEDS, expected):
            book = loop_book()
            self.assertEqual(book.do(deed), [])
            self.assertEqual(state_of(book), (loop.with_procedure("main", procedure), FACTS, [], [frozen_deed(deed)], 1, []))
        book = loop_book()
        self.assertEqual(book.do(DEEDS[3]), [])
        self.assertEqual(state_of(book), (loop, FACTS.with_fact("w", "", 9), [], [DEEDS[3]], 1, []))
        book = loop_book()
        self.assertEqual([book.do(DEEDS[4]), book.do(DEEDS[5])], [[], [1]])
        self.assertEqual([book.claims(), book.broken(), len(book)], [[DEEDS[4][1], DEEDS[5][1]], [1], 2])
        self.assertIsNone(book.weakest())
        self.assertEqual([book.do(("drop", 0)), book.claims(), book.do(("drop", 0)), book.claims()], [[0], [DEEDS[5][1]], [], []])
        self.assertEqual(book.log(), [DEEDS[4], DEEDS[5], ("drop", 0), ("drop", 0)])

    def test_what_do_answers(self):
        book = loop_book(("claim", ("main", 1, "w", "r", 3)), ("claim", ("main", 0, "w", "r", 1)), ("claim", ("main", 1, "r", "w", -1)))
        self.assertEqual(book.broken(), [1])
        self.assertEqual(book.do(("number", "main", 0, 0, 2)), [0, 1])
        self.assertEqual(book.do(("number", "main", 1, 0, 2)), [0, 1])
        self.assertEqual(book.do(("fact", "w", "r", 1)), [])
        self.assertEqual(book.do(("number", "main", 1, 0, 3)), [2])
        self.assertEqual(book.do(("out", "main", 1)), [])
        self.assertEqual(book.do(("way", "main", 1, 1, ("set", [("r", "", 0), ("w", "", 1)]))), [])
        self.assertEqual(book.do(("way", "main", 1, 1, ("set", (("w", "w", 0), ("r", "w", 0))))), [2])
        self.assertEqual([book.back(), book.broken()], [("way", "main", 1, 1, ("set", (("w", "w", 0), ("r", "w", 0)))), []])
        self.assertEqual(book.weakest(), weakest(book.program, book.claims()))

    def test_no_deed(self):
        book = loop_book(DEEDS[4])
        before = state_of(book)
        bad = [None, True, False, [], (), {}, b"a", 3j, loop_program(), deep(18), Facts, {1}]
        no_name = ["", "A", "ninechars", 0, ["main"]] + bad
        no_count = [-1, -BIG, "0", "", [0]] + bad
        no_source = ["*", "A", "a b", 0] + bad
        no_integer = ["5", "", "endless", [5]] + bad
        no_statement = ["skip", ["skip"], ("skip", 1), ("set", [["w", "w", 1]]), ("set", [("w", "w", True)]), ("most", "w", []),
                        ("call", "f", [], ["x", "x"]), ("set", [("w", "w", 1), ("w", "", 1)])] + bad
        right = ("main", 0, "w", "r", 2)
        no_claim = [list(right), right[:4], right + (0,), (right,)] + bad
        for at, things in enumerate([no_name, no_count, no_source, no_source, no_integer]):
            no_claim += [right[:at] + (thing,) + right[at + 1:] for thing in things]
        for deed, wrong in [(DEEDS[0], [no_name, no_count, no_count, no_statement]), (DEEDS[1], [no_name, no_count]),
                            (DEEDS[2], [no_name, no_count, no_count, no_integer]), (DEEDS[3], [no_source, no_source, no_integer]),
                            (DEEDS[4], [no_claim]), (DEEDS[6], [no_count])]:
            for at, things in enumerate(wrong):
                for thing in things:
                    self.raises(NoDeed, book.do, deed[:at + 1] + (thing,) + deed[at + 2:])
            for thing in bad + ["ways", "", "WAY", "far", "back", deed, [deed[0]], (deed[0],)]:
                self.raises(NoDeed, book.do, (thing,) + deed[1:])
            for thing in (list(deed), deed[:-1], deed + (0,), deed + (deed[-1],), (deed,), [deed], deed[1:], deed[:1], {deed[0]: 1}):
                self.raises(NoDeed, book.do, thing)
        for thing in junk() + bad + [deep(), "way", book, ("claim",) + right, ("claim", right, 0), ["claim", right], tuple(range(10000))]:
            self.raises(NoDeed, book.do, thing)
        self.assertEqual(state_of(book), before)

    def test_refused(self):
        book = small_book()
        skip = ("skip",)
        for deed in [
                # Errors of Procedure and of Program.
                ("way", "g", 0, 1, skip), ("way", "main", 2, 0, skip), ("way", "main", 0, 2, skip), ("way", "main", 10 ** 50, 0, skip),
                ("way", "main", 0, 1, ("set", [("z", "p", 1)])), ("way", "main", 0, 1, ("set", [("p", "z", 1)])),
                ("way", "main", 0, 1, ("set", [("p", "h", 1)])), ("way", "main", 0, 1, ("most", "p", [("p", 1)])),
                ("way", "main", 0, 1, ("least", "l", [("h", 1)])), ("way", "main", 0, 1, ("call", "g", [], [])),
                ("way", "main", 0, 1, ("call", "f", [("h", 0)], ["h"])), ("way", "main", 0, 1, ("call", "f", [], ["h"])),
                ("way", "main", 0, 1, ("call", "f", [("p", 0)], [])), ("way", "main", 0, 1, ("call", "f", [("p", 0)], ["p"])),
                # Errors of [30], of [31] and of Facts.
                ("out", "g", 0), ("out", "main", 2), ("out", "f", 10 ** 50), ("number", "g", 0, 0, 0), ("number", "main", 2, 0, 0),
                ("number", "main", 0, 1, 0), ("number", "main", 1, 0, 0), ("number", "f", 0, 2, 0), ("number", "f", 0, BIG, 0),
                ("fact", "h", "p", 0), ("fact", "p", "l", 0), ("fact", "p", "p", -1), ("fact", "", "", -BIG), ("fact", "q", "p", -2),
                # Spots that there are not, or that do not fit, and indexes of no claim.
                ("claim", ("g", 0, "p", "p", 0)), ("claim", ("main", 2, "p", "p", 0)), ("claim", ("main", 10 ** 50, "p", "p", 0)),
                ("claim", ("main", 0, "z", "p", 0)), ("claim", ("main", 0, "p", "z", 0)), ("claim", ("main", 0, "l", "p", 0)),
                ("claim", ("f", 0, "p", "h", 0)), ("drop", 0), ("drop", BIG)]:
            self.refuses(book, deed)
        book.do(("claim", ("main", 1, "h", "l", 0)))
        book.do(("claim", ("f", 0, "", "", 0)))
        book.back()
        for deed in [("drop", 1), ("drop", 2), ("fact", "q", "p", -2), ("out", "main", 2), ("claim", ("f", 0, "p", "h", 0))]:
            self.refuses(book, deed)
        self.assertEqual(book.again(), ("claim", ("f", 0, "", "", 0)))

    def test_an_error_of_a_deed_behind_another_one(self):
        book = small_book()
        book.do(("fact", "q", "p", -1))
        self.refuses(book, ("fact", "p", "q", 0))
        book.do(("out", "main", 0))
        self.refuses(book, ("number", "main", 0, 0, 1))
        self.refuses(book, ("out", "main", 1))
        book.do(("claim", ("main", 1, "h", "l", 0)))
        book.do(("drop", 0))
        self.refuses(book, ("drop", 0))
        self.assertEqual([book.back(), book.do(("drop", 0))], [("drop", 0), []])

    def test_claims_behind_other_deeds(self):
        """No deed takes a name or a place away, so claims go on to fit, also where nothing comes any longer."""
        book = small_book()
        self.assertEqual([book.do(("claim", ("f", 1, "h", "p", 2))), book.do(("fact", "p", "", 9)), book.do(("fact", "", "p", 0))], [[0], [0], []])
        self.assertEqual([book.do(("number", "f", 0, 1, 2)), book.do(("number", "f", 0, 0, 3)), book.do(("out", "f", 0)), book.claims()],
                         [[], [0], [], [("f", 1, "h", "p", 2)]])
        self.assertEqual([book.weakest(), book.back(), book.broken()], [Facts(["p", "q"]), ("out", "f", 0), [0]])

    def test_most_ways_and_most_claims(self):
        book = loop_book()
        for _ in range(6):
            book.do(("way", "main", 0, 0, ("skip",)))
        self.refuses(book, ("way", "main", 0, 0, ("skip",)))
        book.do(("out", "main", 3))
        self.assertEqual([book.do(("way", "main", 0, 0, ("skip",))), len(book.program["main"])], [[], 8])
        self.refuses(book, ("way", "main", 1, 1, ("skip",)))
        for at in range(8):
            self.assertEqual(book.do(("claim", ("main", 0, "", "", at - 1))), [0])
        self.refuses(book, ("claim", ("main", 0, "", "", 9)))
        self.assertEqual(book.do(("drop", 0)), [])
        self.assertEqual(book.do(("claim", ("main", 0, "", "", 9))), [])
        self.refuses(book, ("claim", ("main", 0, "", "", 9)))
        self.refuses(book, ("drop", 8))
        self.assertEqual(book.do(("drop", 7)), [])

    def test_a_hundred_deeds(self):
        book = loop_book()
        for at in range(100):
            self.assertEqual(len(book), at)
            book.do(("fact", "r", "w", at) if at % 2 else ("number", "main", 0, 0, at))
        before = state_of(book)
        for deed in DEEDS + [("drop", 5), ("out", "x", 0), ("fact", "z", "", 0), ("way", "x", 9, 9, ("skip",))]:
            self.assertEqual(self.raises(Full, book.do, deed).most, 100)
        for thing in (None, ("drop", -1), list(DEEDS[4]), ()):
            self.raises(NoDeed, book.do, thing)
        self.assertEqual(state_of(book), before)
        self.assertEqual(book.back(), ("fact", "r", "w", 99))
        self.refuses(book, ("drop", 0))
        self.assertEqual([book.again(), len(book)], [("fact", "r", "w", 99), 100])
        self.raises(Full, book.do, ("fact", "r", "w", 0))
        book.back()
        self.assertEqual([book.do(("claim", ("main", 0, "w", "r", 1))), len(book)], [[0], 100])
        self.raises(Full, book.do, ("fact", "r", "w", 0))
        self.assertEqual(len(book.past(100)), 100)
        self.raises(Full, book.past(100).do, ("fact", "r", "w", 0))
        self.raises(Full, book.copied().do, ("fact", "r", "w", 0))
        while len(book):
            book.back()
        self.assertEqual(book, loop_book())
        self.raises(Nothing, book.back)
        for _ in range(100):
            book.again()
        self.raises(Nothing, book.again)

    def test_back_and_again(self):
        book = loop_book()
        self.raises(Nothing, book.back)
        self.raises(Nothing, book.again)
        states = [state_of(book)]
        for deed in DEEDS:
            book.do(deed)
            states.append(state_of(book))
        for deed, state in list(zip(DEEDS, states))[::-1]:
            self.assertEqual(book.back(), frozen_deed(deed))
            self.assertEqual(state_of(book), state)
        self.raises(Nothing, book.back)
        for deed, state in zip(DEEDS, states[1:]):
            self.assertEqual(book.again(), frozen_deed(deed))
            self.assertEqual(state_of(book), state)
        self.raises(Nothing, book.again)
        book.back()
        book.back()
        self.raises(Refused, book.do, ("drop", 7))
        self.raises(NoDeed, book.do, None)
        self.assertEqual(undone_of(book), DEEDS[5:])
        book.do(("fact", "w", "", 3))
        self.raises(Nothing, book.again)
        self.assertEqual([book.back(), book.back(), book.again()], [("fact", "w", "", 3), DEEDS[4], DEEDS[4]])
        self.assertEqual(undone_of(book), [("fact", "w", "", 3)])

    def test_past(self):
        book = loop_book(*DEEDS)
        states = [state_of(loop_book(*DEEDS[:many])) for many in range(8)]
        before = state_of(book)
        for many in range(8):
            other = book.past(many)
            self.assertIsInstance(other, Book)
            self.assertIsNot(other, book)
            self.assertEqual(state_of(other), states[many])
            self.assertEqual(undone_of(other), [])
            self.assertEqual(other == book, many == 7)
            other.do(("fact", "r", "", -3))
        for many in (-1, 8, 9, 10 ** 39, -10 ** 39):
            self.assertEqual(self.raises(NoEntry, book.past, many).many, many)
        self.assertEqual(state_of(book), before)
        book.back()
        self.assertEqual(self.raises(NoEntry, book.past, 7).many, 7)
        self.assertEqual(undone_of(book.past(6)), [])
        self.assertEqual(undone_of(book), DEEDS[6:])

    def test_copied(self):
        book = loop_book(*DEEDS)
        for _ in range(3):
            book.back()
        other = book.copied()
        self.assertIsNot(other, book)
        self.assertEqual([other == book, state_of(other), undone_of(other)], [True, state_of(book), DEEDS[4:]])
        self.assertEqual([other.again(), other.again(), len(book), undone_of(book)], [DEEDS[4], DEEDS[5], 4, DEEDS[4:]])
        book.do(("fact", "w", "", 8))
        self.assertEqual([undone_of(book), undone_of(other), other == book], [[], DEEDS[6:], False])
        self.assertEqual([other.again(), other.broken(), book.broken()], [DEEDS[6], [], []])
        self.assertEqual(Book(loop_program(), FACTS).copied(), Book(loop_program(), FACTS))

    def test_equal(self):
        one, other = loop_book(*DEEDS), loop_book(*DEEDS)
        self.assertTrue(one == other and not one != other)
        other.back()
        self.assertFalse(one == other)
        other.again()
        self.assertTrue(one == other)
        # By what it began with and by the log, not by what came of them, and not by what can be done again.
        self.assertFalse(loop_book(("fact", "w", "r", 2)) == loop_book())
        self.assertFalse(loop_book(("fact", "w", "r", 3)) == loop_book(("fact", "w", "r", 2)))
        self.assertFalse(loop_book(("number", "main", 0, 0, 2)) == Book(loop_program().with_number("main", 0, 0, 2), FACTS))
        self.assertFalse(Book(loop_program(), FACTS) == Book(loop_program(), FACTS.with_fact("w", "", 0)))
        self.assertTrue(Book(loop_program(), FACTS) == Book(loop_program(), Facts(["w", "r"], FACTS.bounds())))
        self.assertTrue(loop_book(DEEDS[0]) == loop_book(frozen_deed(DEEDS[0])))
        undone = loop_book(("fact", "w", "", 0))
        undone.back()
        self.assertTrue(undone == loop_book())
        for thing in junk() + [loop_program(), FACTS, (loop_program(), FACTS), [], Book]:
            self.assertFalse(one == thing)
            self.assertTrue(one != thing)

    def test_trial_that_returns(self):
        book = loop_book(*DEEDS[:5])
        book.back()
        before, undone = state_of(book), undone_of(book)
        seen = []

        def act(thing):
            seen.append(thing)
            seen.append(thing.do(("number", "main", 0, 0, 7)))
            thing.do(("claim", ("main", 1, "w", "r", 3)))
            return thing.broken()

        self.assertEqual(book.trial(act), [0])
        self.assertIs(seen[0], book)
        self.assertEqual([state_of(book), undone_of(book)], [before, undone])
        for thing in (None, [], seen, 0, book):
            self.assertIs(book.trial(lambda _: thing), thing)
        self.assertEqual(book.trial(len), 4)
        self.assertIsNone(book.trial(lambda one: None))

    def test_trial_that_raises(self):
        book = loop_book(*DEEDS[:5])
        book.back()
        before, undone = state_of(book), undone_of(book)
        for error in (Stop("x"), KeyError(1), NoDeed(), Nothing(), ZeroDivisionError()):
            def act(thing, error=error):
                thing.do(("fact", "w", "", 7))
                thing.back()
                thing.back()
                raise error
            with self.assertRaises(type(error)) as caught:
                book.trial(act)
            self.assertIs(caught.exception, error)
            self.assertEqual([state_of(book), undone_of(book)], [before, undone])
        self.raises(Nothing, book.trial, lambda one: [one.back() for _ in range(9)])
        self.raises(Refused, book.trial, lambda one: [one.do(("fact", "w", "", 7)), one.do(("drop", 0))])
        self.raises(NoDeed, book.trial, lambda one: one.do(None))
        self.assertEqual([state_of(book), undone_of(book)], [before, undone])
        self.assertEqual([book.again(), book.do(("drop", 0))], [DEEDS[4], []])

    def test_trial_that_goes_behind_where_it_began(self):
        book = loop_book(*DEEDS[:5])
        book.back()
        before, undone = state_of(book), undone_of(book)

        def act(thing):
            found = [thing.again(), thing.back(), thing.back(), thing.back(), thing.back(), thing.back()]
            found.append(len(thing))
            thing.do(("fact", "r", "", 1))
            return found + thing.log() + thing.trial(lambda one: [one.back(), one.again(), one.do(("drop", 0))] if one.claims() else [one.back(), len(one)])

        expected = [DEEDS[4], DEEDS[4]] + [frozen_deed(deed) for deed in DEEDS[3::-1]] + [0, ("fact", "r", "", 1), ("fact", "r", "", 1), 0]
        self.assertEqual(book.trial(act), expected)
        self.assertEqual([state_of(book), undone_of(book)], [before, undone])

    def test_one_trial_within_another(self):
        book = loop_book(DEEDS[3])

        def inner(thing):
            thing.do(("fact", "r", "", 2))
            raise Stop()

        def outer(thing):
            thing.do(("fact", "r", "", 1))
            kept = state_of(thing)
            try:
                thing.trial(inner)
            except Stop:
                pass
            same = state_of(thing) == kept
            return [same, thing.back(), thing.trial(lambda one: one.again()), undone_of(thing)]

        self.assertEqual(book.trial(outer), [True, ("fact", "r", "", 1), ("fact", "r", "", 1), [("fact", "r", "", 1)]])
        self.assertEqual([book.log(), undone_of(book)], [[DEEDS[3]], []])

    def test_random_deeds(self):
        """Each state is what the deeds of the log come to, and what is undone is what was there."""
        rng = random.Random(900)
        seen = {"done": 0, "refused": 0, "back": 0, "again": 0}
        for _ in range(25):
            program = wide_program(rng, most=2)
            facts = wide_facts(rng, program)
            book = Book(program, facts)
            states, undone = [state_of(book)], []
            for _ in range(25):
                turn = rng.random()
                if turn < 0.2 and len(states) > 1:
                    undone.append((book.log()[-1], states.pop()))
                    self.assertEqual(book.back(), undone[-1][0])
                    seen["back"] += 1
                elif turn < 0.5 and undone:
                    deed, state = undone.pop()
                    self.assertEqual(book.again(), deed)
                    states.append(state)
                    seen["again"] += 1
                else:
                    deed = random_deed(rng, book)
                    try:
                        told = book.do(deed)
                        self.assertEqual([told, book.log()[-1]], [broken(book.program, book.facts, book.claims()), frozen_deed(deed)])
                        states.append(state_of(book))
                        undone = []
                        seen["done"] += 1
                    except Refused as error:
                        self.assertEqual(error.deed, frozen_deed(deed))
                        seen["refused"] += 1
                self.assertEqual(state_of(book), states[-1])
                self.assertEqual(undone_of(book), [deed for deed, _ in undone[::-1]])
            self.assertEqual(state_of(book.past(len(book))), states[-1])
            many = rng.randint(0, len(book))
            self.assertEqual(state_of(book.past(many)), states[many])
        self.assertTrue(min(seen.values()) > 30, seen)

    def test_what_is_told_and_handed_in(self):
        parts = [("r", "r", 2)]
        deed = ("way", "main", 1, 0, ("set", parts))
        book = loop_book(deed, ("claim", ("main", 1, "w", "r", 3)), ("claim", ("main", 1, "w", "r", 2)))
        parts.append(("w", "w", 9))
        parts[0] = ("r", "r", 0)
        kept = ("way", "main", 1, 0, ("set", (("r", "r", 2),)))
        before = copy.deepcopy((book.log(), book.claims(), book.broken()))
        self.assertEqual([before[0][0], book.program["main"].way(2)[2]], [kept, kept[4]])
        for _ in range(2):
            for told in (book.log(), book.claims(), book.broken(), book.do(("fact", "r", "r", 0)), book.past(1).log()):
                told.append(7)
                told.reverse()
            book.back()
            self.assertEqual((book.log(), book.claims(), book.broken()), before)
        with self.assertRaises(Refused) as caught:
            statement = ("set", [("z", "r", 2)])
            book.do(("way", "main", 1, 0, statement))
        statement[1].clear()
        self.assertEqual(caught.exception.deed, ("way", "main", 1, 0, ("set", (("z", "r", 2),))))
        with self.assertRaises(AttributeError):
            book.program = loop_program()
        with self.assertRaises(AttributeError):
            book.facts = FACTS


if __name__ == "__main__":
    unittest.main()
