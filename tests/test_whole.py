"""What the document promises of the whole program: [1], [3], [4], the guarantees [5] to [11], and its interface."""

import copy
import random
import subprocess
import sys
import unittest

from oracle import (all_spots, difference, fixed, is_closed, renamed_all, renamed_spot, short_outer, some_claims, wide_facts,
                    wide_program)
from runner import shows as played_by_hand
from samples import loop_program
from test_book import state_of, undone_of
from test_language import LISTED
from test_slack import integers_of, is_right

from farapart import (alike, beyond, book, buffers, claims, desk, errors, facts, far, forms, inner, kinds, notation, outer, plays, procedures,
                      programs, reasons, roads, slack, statements, tables, walks, weakest)
from farapart.errors import Endless, Never
from farapart.statements import numbers

MODULES = """errors kinds facts statements procedures programs forms plays roads walks inner outer far tables reasons beyond claims
weakest slack buffers alike book notation desk""".split()
SPOT, OTHER = ("even", 2, "q", "p"), ("odd", 0, "b", "")
CLAIM = SPOT + (3,)
ROWS = [("steps", "odd", 0, [1]), ("run", 0), ("steps", "even", 0, [0]), ("call", "even", 1, 1), ("then", 2, 3), ("moment", None, 4),
        ("steps", "even", 2, [3]), ("then", 4, 6), ("again", 7, 5), ("moment", None, 8), ("enter", 2, 1)]
MOMENT = [0, ("call", 1, [1]), 3]


def pair_program():
    """Two procedures that call one another, with names of all kinds, and with differences that are endless and not."""
    even = [
        (0, 1, ("most", "h", [("p", 2), ("q", 0)])), (1, 2, ("call", "odd", [("h", 0), ("p", 0)], ["h", "q"])), (0, 2, ("set", [("l", "q", -1)])),
        (2, 0, ("set", [("q", "p", 0)])), (1, 1, ("least", "l", [("p", 1), ("q", -3)])), (2, 2, ("set", [("h", "h", 1)])),
    ]
    odd = [(0, 1, ("call", "even", [("b", 0), ("b", -1)], ["b"])), (0, 1, ("set", [("a", "b", 1)])), (1, 1, ("most", "a", [("a", 0), ("b", 0)]))]
    return programs.Program({
        "even": procedures.Procedure({"p": "plain", "h": "high", "l": "low", "q": "plain"}, ["p", "q"], ["q"], 3, even),
        "odd": procedures.Procedure({"a": "high", "b": "plain"}, ["a", "b"], ["a", "b"], 2, odd),
    }, "even")


def things():
    """Objects and other values that are handed in, each time new ones."""
    program = pair_program()
    some = facts.Facts(["p", "q"], [("p", "q", 1), ("q", "p", 2)])
    bound = book.Book(program, some)
    for deed in [("claim", CLAIM), ("number", "even", 2, 0, 5), ("fact", "p", "", 4)]:
        bound.do(deed)
    bound.back()
    told = tables.table(program)
    return {
        "program": program, "other": program.with_number("even", 3, 0, 7), "procedure": program["even"], "odd": program["odd"], "facts": some,
        "loose": facts.Facts(["q", "p"], [("p", "", 9)]), "form": forms.Form.begin(program["even"]), "roads": roads.Roads(program, copy.deepcopy(ROWS)),
        "inner": inner.Inner(program), "outer": outer.Outer(program), "book": bound, "desk": desk.Desk(program, some), "names": ["a", "b"],
        "tuples": [("a", "b", 3)], "start": {"p": 1, "q": 0}, "kinds": {"a": "plain", "b": "high"}, "ways": [[0, 1, ("set", [("a", "", 1)])]],
        "statement": ("call", "odd", [("h", 1), ("p", 0)], ["h", "q"]), "setting": ("set", [("p", "q", 1), ("l", "", 0)]), "moment": copy.deepcopy(MOMENT),
        "spots": [SPOT, OTHER], "claims": [CLAIM, OTHER + (0,)], "told": [("p", "q", 0), ("p", "", 1)], "table": told, "rows": copy.deepcopy(ROWS),
        "procedures": {"a": procedures.Procedure({}, [], [], 1, [])}, "arrows": [("a", "b", 3), ("b", "b", 1), ("b", "c", -2)], "begins": [("a", 0)],
        "renaming": {"even": "odd", "odd": "even"}, "within": {"h": "l", "l": "h", "p": "a", "q": "b"}, "deed": ("way", "even", 0, 1, ("set", [("p", "q", 1)])),
    }


def plain(thing):
    """A value by lists, tuples, dicts, strings and numbers only, so that it can be compared and keeps what it was."""
    if isinstance(thing, (list, tuple)):
        return [type(thing).__name__] + [plain(item) for item in thing]
    if isinstance(thing, dict):
        return ["dict"] + [(plain(key), plain(item)) for key, item in thing.items()]
    if isinstance(thing, facts.Facts):
        return ["facts", thing.names(), thing.bounds()]
    if isinstance(thing, procedures.Procedure):
        kept = {name: thing.kind(name) for name in thing.names()}
        return ["procedure", plain(kept), plain([thing.params, thing.results, thing.size, thing.ways()])]
    if isinstance(thing, programs.Program):
        return ["program", thing.first, [(name, plain(thing[name])) for name in thing.names()]]
    if isinstance(thing, forms.Form):
        return ["form", [(name, thing.kind(name), plain(thing[name])) for name in thing.names()]]
    if isinstance(thing, roads.Roads):
        return ["roads", plain(thing.rows()), [(thing.kind(row), thing.length(row)) for row in range(len(thing))]]
    if isinstance(thing, (inner.Inner, outer.Outer)):
        return [type(thing).__name__, plain(thing.rows())]
    if isinstance(thing, book.Book):
        return ["book", plain(state_of(thing)), plain(undone_of(thing))]
    if isinstance(thing, desk.Desk):
        return ["desk"] + [thing.execute(line) for line in ("program", "facts", "claims", "log")]
    return [type(thing).__name__, thing]


def spoil(thing):
    """Change all that a caller can change of what it was told."""
    if isinstance(thing, (list, tuple)):
        for item in thing:
            spoil(item)
    if isinstance(thing, dict):
        for item in thing.values():
            spoil(item)
    if isinstance(thing, (list, dict)):
        thing.clear()
    if isinstance(thing, book.Book):
        thing.do(("fact", "p", "q", -1))
        while len(thing) > 0:
            thing.back()


QUERIES = {
    "kinds.is_integer": lambda t: kinds.is_integer(5), "kinds.is_name": lambda t: kinds.is_name("a"), "kinds.is_source": lambda t: kinds.is_source(t["names"]),
    "kinds.is_kind": lambda t: kinds.is_kind("low"), "kinds.fits": lambda t: kinds.fits("plain", "low"),
    "facts.Facts.__init__": lambda t: facts.Facts(t["names"], t["tuples"]), "facts.Facts.names": lambda t: t["facts"].names(),
    "facts.Facts.greatest": lambda t: t["facts"].greatest("p", "q"), "facts.Facts.bounds": lambda t: t["facts"].bounds(),
    "facts.Facts.keeps": lambda t: t["facts"].keeps(t["start"]), "facts.Facts.within": lambda t: t["facts"].within(t["loose"]),
    "facts.Facts.start_with": lambda t: t["facts"].start_with("p", "q", 1), "facts.Facts.with_fact": lambda t: t["facts"].with_fact("p", "", 3),
    "facts.Facts.__and__": lambda t: t["facts"] & t["loose"], "facts.Facts.__eq__": lambda t: [t["facts"] == t["loose"], t["facts"] == t["facts"]],
    "statements.is_statement": lambda t: statements.is_statement(t["statement"]), "statements.frozen": lambda t: statements.frozen(t["statement"]),
    "statements.with_number": lambda t: statements.with_number(t["statement"], 1, 5), "statements.sets": lambda t: statements.sets(t["statement"]),
    "statements.reads": lambda t: statements.reads(t["statement"]), "statements.numbers": lambda t: statements.numbers(t["statement"]),
    "procedures.Procedure.__init__": lambda t: procedures.Procedure(t["kinds"], t["names"], t["names"], 2, t["ways"]),
    "procedures.Procedure.params": lambda t: t["procedure"].params, "procedures.Procedure.results": lambda t: t["procedure"].results,
    "procedures.Procedure.size": lambda t: t["procedure"].size, "procedures.Procedure.names": lambda t: t["procedure"].names(),
    "procedures.Procedure.uppers": lambda t: t["procedure"].uppers(), "procedures.Procedure.lowers": lambda t: t["procedure"].lowers(),
    "procedures.Procedure.ways": lambda t: t["procedure"].ways(), "procedures.Procedure.out": lambda t: t["procedure"].out(1),
    "procedures.Procedure.kind": lambda t: t["procedure"].kind("h"), "procedures.Procedure.way": lambda t: t["procedure"].way(2),
    "procedures.Procedure.with_way": lambda t: t["procedure"].with_way([0, 1, t["setting"]]),
    "procedures.Procedure.without_way": lambda t: t["procedure"].without_way(0), "procedures.Procedure.with_number": lambda t: t["procedure"].with_number(0, 0, 8),
    "procedures.Procedure.renamed": lambda t: t["procedure"].renamed(t["within"]), "procedures.Procedure.__len__": lambda t: len(t["procedure"]),
    "procedures.Procedure.__eq__": lambda t: [t["procedure"] == t["odd"], t["procedure"] == t["procedure"]],
    "programs.Program.__init__": lambda t: programs.Program(t["procedures"], "a"), "programs.Program.__getitem__": lambda t: t["program"]["odd"],
    "programs.Program.__contains__": lambda t: [t["names"] in t["program"], "odd" in t["program"]], "programs.Program.__len__": lambda t: len(t["program"]),
    "programs.Program.__eq__": lambda t: [t["program"] == t["other"], t["program"] == t["program"]], "programs.Program.first": lambda t: t["program"].first,
    "programs.Program.names": lambda t: t["program"].names(), "programs.Program.called": lambda t: t["program"].called("odd"),
    "programs.Program.reached": lambda t: t["program"].reached(), "programs.Program.rings": lambda t: t["program"].rings(),
    "programs.Program.with_procedure": lambda t: t["program"].with_procedure("more", t["odd"]),
    "programs.Program.with_number": lambda t: t["program"].with_number("odd", 1, 0, 0), "programs.Program.renamed": lambda t: t["program"].renamed(t["renaming"]),
    "forms.Form.begin": lambda t: forms.Form.begin(t["procedure"]), "forms.Form.itself": lambda t: forms.Form.itself(t["procedure"]),
    "forms.Form.__getitem__": lambda t: t["form"]["p"], "forms.Form.__eq__": lambda t: [t["form"] == t["form"], t["form"] == t["start"]],
    "forms.Form.names": lambda t: t["form"].names(), "forms.Form.kind": lambda t: t["form"].kind("l"), "forms.Form.after": lambda t: t["form"].after(t["setting"]),
    "forms.Form.behind": lambda t: t["form"].behind(t["statement"], forms.Form.begin(t["odd"])),
    "forms.Form.entered": lambda t: t["form"].entered(t["statement"], t["odd"]), "forms.Form.led": lambda t: t["form"].led(t["form"]),
    "forms.Form.numbers": lambda t: t["form"].numbers(t["start"]), "forms.Form.apart": lambda t: t["form"].apart("p", "q"),
    "plays.is_run": lambda t: plays.is_run(t["program"], "even", t["moment"]), "plays.is_moment": lambda t: plays.is_moment(t["program"], t["moment"]),
    "plays.steps_of": lambda t: plays.steps_of(t["moment"]), "plays.form_at": lambda t: plays.form_at(t["program"], t["moment"]),
    "plays.played": lambda t: plays.played(t["program"], t["moment"], t["start"]), "plays.moments": lambda t: list(plays.moments(t["program"], 3)),
    "plays.shown": lambda t: plays.shown(t["program"], 4, t["start"], *SPOT),
    "roads.Roads.__init__": lambda t: roads.Roads(t["program"], t["rows"]), "roads.Roads.__len__": lambda t: len(t["roads"]),
    "roads.Roads.__eq__": lambda t: [t["roads"] == t["roads"], t["roads"] == t["rows"]], "roads.Roads.rows": lambda t: t["roads"].rows(),
    "roads.Roads.kind": lambda t: t["roads"].kind(3), "roads.Roads.procedure": lambda t: t["roads"].procedure(10), "roads.Roads.wanted": lambda t: t["roads"].wanted(10),
    "roads.Roads.ends": lambda t: t["roads"].ends(8), "roads.Roads.length": lambda t: t["roads"].length(9), "roads.Roads.form": lambda t: t["roads"].form(8),
    "roads.Roads.shows": lambda t: t["roads"].shows(9, t["start"]), "roads.Roads.written": lambda t: t["roads"].written(9),
    "walks.heaviest": lambda t: walks.heaviest(t["arrows"], t["begins"]), "walks.walk": lambda t: walks.walk(t["arrows"][:1], t["begins"], "b"),
    "walks.ring": lambda t: walks.ring(t["arrows"], t["begins"], "c"),
    "inner.Inner.__init__": lambda t: inner.Inner(t["program"]), "inner.Inner.value": lambda t: t["inner"].value("odd", 1, "a", "b", "b", "b"),
    "inner.Inner.rows": lambda t: t["inner"].rows(), "inner.Inner.ends": lambda t: t["inner"].ends("odd"),
    "outer.Outer.__init__": lambda t: outer.Outer(t["program"]), "outer.Outer.value": lambda t: t["outer"].value("odd", 1, "a", "b", "p", "q"),
    "outer.Outer.rows": lambda t: t["outer"].rows(), "outer.Outer.comes": lambda t: t["outer"].comes("odd", 1),
    "far.far": lambda t: far.far(t["program"], t["facts"], SPOT), "far.far_in": lambda t: far.far_in(t["program"], t["facts"], "odd", "b", ""),
    "far.known": lambda t: far.known(t["facts"], t["table"][1], SPOT), "far.constant": lambda t: far.constant(t["program"], t["facts"], ("even", 0, "p", "p")),
    "tables.table": lambda t: tables.table(t["program"]), "tables.is_table": lambda t: tables.is_table(t["program"], *t["table"]),
    "tables.loosest": lambda t: tables.loosest(t["other"], *tables.table(t["other"])),
    "reasons.reason": lambda t: reasons.reason(t["program"], t["facts"], SPOT), "reasons.way_to": lambda t: reasons.way_to(t["program"], "odd", 1),
    "reasons.is_reason": lambda t: reasons.is_reason(t["program"], t["facts"], SPOT, 1, (t["rows"], t["start"])),
    "beyond.beyond": lambda t: beyond.beyond(t["program"], t["facts"], OTHER, 10 ** 30), "beyond.growth": lambda t: beyond.growth(t["program"], t["facts"], ("even", 2, "h", "p")),
    "claims.is_claim": lambda t: claims.is_claim(t["program"], t["claims"]), "claims.holds": lambda t: claims.holds(t["program"], t["facts"], CLAIM),
    "claims.broken": lambda t: claims.broken(t["program"], t["facts"], t["claims"]), "claims.counter": lambda t: claims.counter(t["program"], t["facts"], OTHER + (5,)),
    "weakest.weakest": lambda t: weakest.weakest(t["program"], [("even", 0, "p", "q", 5)]),
    "weakest.needed": lambda t: weakest.needed(t["program"], t["loose"], t["told"], [("even", 0, "p", "q", 1)]),
    "slack.slack": lambda t: slack.slack(t["program"], t["facts"], t["claims"][:1], "even", 3, 0),
    "buffers.ring_size": lambda t: buffers.ring_size(t["program"], t["facts"], t["spots"]), "buffers.lead": lambda t: buffers.lead(t["program"], t["facts"], "even", "p", "q"),
    "alike.same_far": lambda t: alike.same_far(t["program"], t["other"], t["facts"], t["spots"]),
    "alike.parted": lambda t: alike.parted(t["program"], t["other"], t["facts"], t["spots"]),
    "alike.idle_ways": lambda t: alike.idle_ways(t["program"], t["facts"], t["spots"]), "alike.inlined": lambda t: alike.inlined(t["program"], "even", 1),
    "book.Book.__init__": lambda t: book.Book(t["program"], t["facts"]), "book.Book.__len__": lambda t: len(t["book"]),
    "book.Book.__eq__": lambda t: [t["book"] == t["book"], t["book"] == t["book"].past(1)], "book.Book.program": lambda t: t["book"].program,
    "book.Book.facts": lambda t: t["book"].facts, "book.Book.past": lambda t: t["book"].past(1), "book.Book.copied": lambda t: t["book"].copied(),
    "book.Book.claims": lambda t: t["book"].claims(), "book.Book.log": lambda t: t["book"].log(), "book.Book.broken": lambda t: t["book"].broken(),
    "book.Book.weakest": lambda t: t["book"].weakest(), "book.Book.trial": lambda t: t["book"].trial(lambda one: one.do(t["deed"])),
    "notation.show_statement": lambda t: notation.show_statement(t["statement"]), "notation.show_procedure": lambda t: notation.show_procedure(t["procedure"]),
    "notation.show_program": lambda t: notation.show_program(t["program"]), "notation.show_facts": lambda t: notation.show_facts(t["facts"]),
    "notation.show_claim": lambda t: notation.show_claim(CLAIM), "notation.show_deed": lambda t: notation.show_deed(t["deed"]),
    "notation.read_statement": lambda t: notation.read_statement("set x=y+1"),
    "notation.read_procedure": lambda t: notation.read_procedure(notation.show_procedure(t["procedure"])),
    "notation.read_program": lambda t: notation.read_program(notation.show_program(t["program"])), "notation.read_facts": lambda t: notation.read_facts("names a\na 0 1"),
    "notation.read_claim": lambda t: notation.read_claim("f 0 a 0 1"), "notation.read_deed": lambda t: notation.read_deed("way f 0 1 set x=y+1"),
    "desk.Desk.__init__": lambda t: desk.Desk(t["program"], t["facts"]),
}

# What is said to change its object: what it is called, what it does, and what the object is like then.
CHANGES = {
    "roads.Roads.put": lambda t: t["roads"].put(("steps", "odd", 1, [2, 2])),
    "book.Book.do": lambda t: t["book"].do(t["deed"]), "book.Book.back": lambda t: t["book"].back(), "book.Book.again": lambda t: t["book"].again(),
    "desk.Desk.execute": lambda t: t["desk"].execute("claim even 0 p q 0"),
}


def listed():
    """The names of all functions and methods of the interface, but for the errors."""
    found = []
    for module, words in LISTED.items():
        for word, methods in words.items():
            if module != "errors":
                found += [f"{module}.{word}"] if methods is None else [f"{module}.{word}.{method}" for method in methods]
    return found


class WholeTest(unittest.TestCase):
    def test_each_module_alone(self):
        code = "import sys; known = set(sys.modules); import farapart.{0}; print(sorted(set(sys.modules) - known), hasattr(farapart.{0}, '__file__'))"
        for module in MODULES:
            run = subprocess.run([sys.executable, "-c", code.format(module)], capture_output=True, text=True, timeout=60)
            self.assertEqual([run.returncode, run.stderr], [0, ""], module)
            loaded, there = run.stdout.rsplit(" ", 1)
            self.assertEqual([name for name in eval(loaded) if name.split(".")[0] != "farapart"], [])
            self.assertEqual(there.strip(), "True")
        self.assertEqual(sorted(LISTED), sorted(MODULES))

    def test_the_tables_of_this_test_have_the_whole_interface(self):
        self.assertEqual(sorted(list(QUERIES) + list(CHANGES)), sorted(listed()))

    def test_queries_change_nothing_and_tell_the_same_twice(self):
        before = plain(things())
        for word, ask in QUERIES.items():
            given = things()
            told = ask(given)
            kept = plain(told)
            spoil(told)
            self.assertEqual(plain(ask(given)), kept, word)
            self.assertEqual(plain(given), before, word)
            self.assertEqual(plain(ask(given)), kept, word)

    def test_what_changes_an_object_changes_nothing_else(self):
        for word, change in CHANGES.items():
            given, others = things(), things()
            owner = word.split(".")[0]
            before = plain({name: thing for name, thing in given.items() if name != owner})
            told = change(given)
            self.assertEqual(plain(change(others)), plain(told), word)
            self.assertNotEqual(plain(given[owner]), plain(things()[owner]), word)
            kept = plain(given[owner])
            spoil(told)
            self.assertEqual([plain(given[owner]), plain(others[owner])], [kept, kept], word)
            self.assertEqual(plain({name: thing for name, thing in given.items() if name != owner}), before, word)

    def test_objects_copy_what_they_are_given(self):
        given = things()
        made = [facts.Facts(given["names"], given["tuples"]), procedures.Procedure(given["kinds"], given["names"], given["names"], 2, given["ways"]),
                programs.Program(given["procedures"], "a"), roads.Roads(given["program"], given["rows"])]
        given["book"].do(given["deed"])
        made.append(given["book"])
        kept = plain(made)
        for name in ("names", "tuples", "kinds", "ways", "procedures", "rows", "deed"):
            if name == "ways":
                given[name][0][2][1].append(("b", "", 2))
                given[name][0][0] = 1
            spoil(given[name])
        self.assertEqual(plain(made), kept)

    def test_ascending_keys_and_truths(self):
        given = things()
        for told in [given["facts"].start_with("p", "q", 0), given["form"]["p"], given["form"].numbers({"q": 1, "p": 0}), given["form"].apart("p", "q"),
                     reasons.reason(given["program"], given["facts"], SPOT)[1], plays.played(given["program"], MOMENT, {"q": 1, "p": 0})[2], given["roads"].shows(9, {"q": 1, "p": 0})[2],
                     walks.heaviest(given["arrows"][::-1], [("c", 0), ("a", 0)]), beyond.beyond(given["program"], given["facts"], OTHER, 9)[1],
                     claims.counter(given["program"], given["facts"], OTHER + (5,))[1]]:
            self.assertEqual(list(told), sorted(told))
        for word in ("kinds.is_integer", "facts.Facts.keeps", "facts.Facts.within", "claims.is_claim", "claims.holds", "alike.same_far", "tables.is_table",
                     "outer.Outer.comes", "inner.Inner.ends", "plays.is_run", "plays.is_moment", "statements.is_statement", "reasons.is_reason"):
            self.assertIn(QUERIES[word](given), (True, False))
            self.assertIs(type(QUERIES[word](given)), bool, word)

    def test_a_renamed_order_of_the_keys_of_a_dict_means_nothing(self):
        program = pair_program()
        other = programs.Program({name: program[name] for name in program.names()[::-1]}, "even")
        even = procedures.Procedure({x: program["even"].kind(x) for x in "qplh"}, ["p", "q"], ["q"], 3, program["even"].ways())
        self.assertEqual([other, even], [program, program["even"]])
        self.assertEqual(plain(other.with_procedure("even", even)), plain(program))
        self.assertEqual(tables.table(other), tables.table(program))
        self.assertEqual(plain(plays.played(program, MOMENT, {"q": 1, "p": 0})), plain(plays.played(other, MOMENT, {"p": 0, "q": 1})))

    def test_no_error_is_raised_that_stands_above_all(self):
        given = things()
        for call in [lambda: facts.Facts(5), lambda: given["program"]["x"], lambda: desk.Desk(given["program"], given["facts"]).execute(5),
                     lambda: given["book"].do(5), lambda: notation.read_claim("x"), lambda: given["roads"].put(5)]:
            with self.assertRaises(errors.ApartError) as caught:
                call()
            self.assertIsNot(type(caught.exception), errors.ApartError)


class GuaranteesTest(unittest.TestCase):
    def each_program(self, seed, many):
        rng = random.Random(seed)
        for _ in range(many):
            program = wide_program(rng)
            yield rng, program, wide_facts(rng, program)

    def test_exact_and_tables(self):
        """[5], [6]: some run shows what far tells, and a closed table tells that none shows more."""
        for rng, program, some in self.each_program(50, 40):
            rows, others = tables.table(program)
            self.assertTrue(is_closed(program, rows, others) and tables.is_table(program, rows, others))
            spots = all_spots(program)
            for spot in rng.sample(spots, min(6, len(spots))):
                told = far.far(program, some, spot)
                self.assertEqual(far.known(some, others, spot), told)
                if isinstance(told, int):
                    found, start = reasons.reason(program, some, spot)
                    self.assertEqual(difference(program, spot, found, start), told)
                    self.assertTrue(reasons.is_reason(program, some, spot, told, (found, start)))
                    self.assertIsNone(beyond.beyond(program, some, spot, told))
                elif told is None:
                    self.assertRaises(Never, reasons.reason, program, some, spot)
                    self.assertIsNone(reasons.way_to(program, *spot[:2]))
                else:
                    self.assertRaises(Endless, reasons.reason, program, some, spot)
                    found, start = beyond.beyond(program, some, spot, 10 ** 50)
                    self.assertGreater(difference(program, spot, found, start), 10 ** 50)

    def test_no_short_run_shows_more(self):
        """[5], [6]: against all moments with few ways."""
        for _, program, _ in self.each_program(51, 25):
            exact = {row[:6]: row[6] for row in outer.Outer(program).rows()}
            for key, value in short_outer(program, 3).items():
                self.assertTrue(exact[key] == "endless" or value <= exact[key])

    def test_roads(self):
        """[7]: what a road shows is what its run, written out, shows, by plain numbers."""
        seen = 0
        for rng, program, some in self.each_program(52, 60):
            spots = all_spots(program)
            for spot in rng.sample(spots, min(4, len(spots))):
                found = reasons.way_to(program, *spot[:2])
                told = far.far(program, some, spot)
                if isinstance(told, int):
                    found = reasons.reason(program, some, spot)[0]
                if found is not None:
                    road = roads.Roads(program, found)
                    last = len(found) - 1
                    if road.length(last) <= 200:
                        start = some.start_with("", "", 0)
                        written = road.written(last)
                        self.assertTrue(plays.is_moment(program, written))
                        self.assertEqual(plays.steps_of(written), road.length(last))
                        self.assertEqual(road.shows(last, start), played_by_hand(program, written, start))
                        seen += 1
        self.assertGreater(seen, 60)

    def test_starts(self):
        """[8]: a start keeps all claims for all runs just if it keeps what weakest tells."""
        for rng, program, some in self.each_program(53, 40):
            told = some_claims(rng, program, some, 3)
            found = weakest.weakest(program, told)
            for _ in range(5):
                start = {x: rng.randint(-6, 6) for x in some.names()}
                self.assertIs(found is not None and found.keeps(start), claims.broken(program, fixed(start), told) == [])

    def test_stretches(self):
        """[9]: with all integers from one end to another, and with no other ones."""
        for rng, program, some in self.each_program(54, 40):
            ways = [way for name in program.names() for way in integers_of(program, name)]
            if ways:
                told = some_claims(rng, program, some, 2)
                way = rng.choice(ways)
                found = slack.slack(program, some, told, *way)
                for d in (-10 ** 30, -7, -2, -1, 0, 1, 2, 7, 10 ** 30):
                    inside = found is not None and (found[0] == "endless" or found[0] <= d) and (found[1] == "endless" or d <= found[1])
                    self.assertIs(is_right(program, some, told, way, d), inside)

    def test_more_and_less_and_names(self):
        """[10], [11]: facts more, ways more, and other names."""
        for rng, program, some in self.each_program(55, 30):
            other, others, within, names = renamed_all(program, some, rng)
            start = {**some.start_with("", "", 0), "": 0}
            x, y = rng.choice(sorted(start)), rng.choice(sorted(start))
            tight = some.with_fact(x, y, start[x] - start[y])
            name = rng.choice(program.names())
            more = program.with_procedure(name, program[name].with_way((0, program[name].size - 1, ("skip",))))
            for spot in all_spots(program):
                told = far.far(program, some, spot)
                self.assertEqual(far.far(other, others, renamed_spot(spot, within, names)), told)
                less, greater = far.far(program, tight, spot), far.far(more, some, spot)
                if told is None:
                    self.assertIsNone(less)
                elif told == "endless":
                    self.assertEqual(greater, "endless")
                else:
                    self.assertLessEqual(less, told)
                    self.assertTrue(greater == "endless" or greater >= told)
            ways = [way for name in program.names() for way in integers_of(program, name)]
            told = some_claims(rng, program, some, 2)
            new = [renamed_spot(claim, within, names) for claim in told]
            for name, index, at in ways[:2]:
                number = numbers(program[name].way(index)[2])[at]
                self.assertEqual(numbers(other[names[name]].way(index)[2])[at], number)
                self.assertEqual(slack.slack(other, others, new, names[name], index, at), slack.slack(program, some, told, name, index, at))
        self.assertEqual(far.far(loop_program(), facts.Facts(["w", "r"], [("w", "r", 2)]), ("main", 1, "w", "r")), 3)


if __name__ == "__main__":
    unittest.main()
