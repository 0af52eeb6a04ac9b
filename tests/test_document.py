"""The examples of the document, which are one session."""

import builtins
import doctest
import unittest

SESSION = """
>>> from farapart.facts import Facts
>>> facts = Facts(["r", "w"], [("w", "r", 2), ("r", "w", 0), ("r", "", 5)])
>>> [facts.greatest("w", "r"), facts.greatest("w", ""), facts.greatest("", "w")]
[2, 7, 'endless']
>>> [facts.bounds(), facts.keeps({"r": 5, "w": 7}), facts.start_with("r", "w", 1)]
[[('r', '', 5), ('r', 'w', 0), ('w', '', 7), ('w', 'r', 2)], True, None]

>>> from farapart.procedures import Procedure
>>> from farapart.programs import Program
>>> plain = {"r": "plain", "w": "plain"}
>>> ways = [(0, 1, ("set", [("w", "w", 1)])), (1, 0, ("set", [("r", "r", 1)]))]
>>> loop = Program({"main": Procedure(plain, ["w", "r"], [], 2, ways)}, "main")
>>> [loop["main"].params, loop["main"].uppers(), loop["main"].out(1), loop.called("main")]
[('w', 'r'), ['', 'r', 'w'], [1], []]
>>> ways = [(0, 1, ("call", "deep", [("n", 1)], ["m"])), (0, 1, ("set", [("m", "n", 0)]))]
>>> deep = Procedure({"m": "plain", "n": "plain"}, ["n"], ["m"], 2, ways)
>>> main = Procedure({"a": "plain", "b": "plain"}, ["a"], [], 2, [(0, 1, ("call", "deep", [("a", 3)], ["b"]))])
>>> down = Program({"deep": deep, "main": main}, "main")
>>> [down.called("main"), down.rings(), down.with_number("main", 0, 0, 4)["main"].way(0)]
[['deep'], ['deep'], (0, 1, ('call', 'deep', (('a', 4),), ('b',)))]

>>> from farapart.forms import Form
>>> from farapart.plays import form_at, is_moment, played, shown
>>> step = Form.begin(down["deep"]).after(("set", [("m", "n", 2), ("n", "", 9)]))
>>> [step["m"], step["n"], step.numbers({"n": 4}), step.apart("n", "m")]
[{'n': 2}, {'': 9}, {'m': 6, 'n': 9}, {('', 'n'): 7}]
>>> run = [("call", 0, [("call", 0, [1])])]
>>> [is_moment(down, run), played(down, run, {"a": 10}), played(down, [("in", 0, [])], {"a": 10})]
[True, ('main', 1, {'a': 10, 'b': 14}), ('deep', 0, {'m': 0, 'n': 13})]
>>> [form_at(down, run)[2]["b"], shown(down, 4, {"a": 0}, "main", 1, "b", "a")]
[{'a': 4}, 5]

>>> from farapart.roads import Roads
>>> roads = Roads(down, [("steps", "deep", 0, [1]), ("run", 0), ("steps", "deep", 0, []), ("steps", "deep", 1, [])])
>>> [roads.put(("around", 2, 0, 3)), roads.put(("times", 4, 10 ** 18)), roads.put(("filled", 5, 1))]
[4, 5, 6]
>>> [roads.kind(6), roads.length(6), roads.form(6)["m"], roads.wanted(4), roads.ends(3)]
['run', 1000000000000000001, {'n': 1000000000000000000}, 'deep', (1, 1)]
>>> [roads.put(("call", "main", 0, 6)), roads.put(("moment", None, 7)), roads.shows(8, {"a": 0})]
[7, 8, ('main', 1, {'a': 0, 'b': 1000000000000000003})]

>>> from farapart.inner import Inner
>>> from farapart.walks import heaviest, ring
>>> arrows = [("a", "b", 3), ("b", "c", -1), ("c", "b", 2), ("a", "d", 5)]
>>> [heaviest(arrows, [("a", 0)]), heaviest(arrows[:2], [("a", 1)]), ring(arrows, [("a", 0)], "d")]
[{'a': 0, 'b': 'endless', 'c': 'endless', 'd': 5}, {'a': 1, 'b': 4, 'c': 3}, None]
>>> inner = Inner(down)
>>> [inner.value("deep", 1, "m", "*", "n", "*"), inner.value("deep", 1, "*", "m", "*", "n"), inner.ends("deep")]
['endless', 0, True]

>>> from farapart.far import constant, far, known
>>> from farapart.outer import Outer
>>> from farapart.tables import is_table, table
>>> [far(loop, facts, ("main", 0, "w", "r")), far(loop, facts, ("main", 1, "w", "r")), far(loop, facts, ("main", 1, "r", "w"))]
[2, 3, -1]
>>> anything = Facts(["a"])
>>> [far(down, anything, ("main", 1, "b", "a")), far(down, anything, ("main", 1, "a", "b")), constant(down, anything, ("deep", 0, "m", ""))]
['endless', -3, 0]
>>> inner, outer = table(loop)
>>> [is_table(loop, inner, outer), is_table(loop, inner, outer[1:]), known(facts, outer, ("main", 1, "w", "r"))]
[True, False, 3]

>>> from farapart.beyond import beyond, growth
>>> from farapart.reasons import is_reason, reason
>>> [is_reason(loop, facts, ("main", 1, "w", "r"), 3, reason(loop, facts, ("main", 1, "w", "r"))), beyond(loop, facts, ("main", 1, "w", "r"), 3)]
[True, None]
>>> rows, start = beyond(down, anything, ("main", 1, "b", "a"), 10 ** 30)
>>> name, place, numbers = Roads(down, rows).shows(len(rows) - 1, start)
>>> [name, place, numbers["b"] - numbers["a"] > 10 ** 30, len(rows) <= 2000]
['main', 1, True, True]

>>> from farapart.buffers import ring_size
>>> from farapart.claims import broken, holds
>>> from farapart.slack import slack
>>> from farapart.weakest import weakest
>>> [holds(loop, facts, ("main", 1, "w", "r", 3)), broken(loop, facts, [("main", 0, "w", "r", 1), ("main", 1, "r", "w", 0)])]
[True, [0]]
>>> weakest(loop, [("main", 1, "w", "r", 9), ("main", 0, "r", "", 20)]) is None
True
>>> weakest(loop, [("main", 1, "w", "r", 9), ("main", 0, "r", "w", 0)]).bounds()
[('r', 'w', 0), ('w', 'r', 8)]
>>> [slack(loop, facts, [("main", 1, "w", "r", 5)], "main", 0, 0), slack(loop, facts, [("main", 1, "w", "r", 1)], "main", 1, 0)]
[('endless', 0), None]
>>> [ring_size(loop, facts, [("main", 0, "w", "r"), ("main", 1, "w", "r")])]
[3]

>>> from farapart.desk import Desk
>>> from farapart.notation import show_facts, show_procedure
>>> [show_procedure(loop["main"]).split("\\n")[:3], show_facts(facts).split("\\n")[1]]
[['names r:plain w:plain', 'params w,r', 'results -'], 'r 0 5']
>>> desk = Desk(loop, facts)
>>> [desk.execute("far main 1 w r"), desk.execute("claim main 1 w r 5"), desk.execute("slack main 0 0")]
['3', '-', 'endless 0']
>>> [desk.execute("number main 0 0 2"), desk.execute("back"), desk.execute("ring main w r")]
['0', 'number main 0 0 2', '3']
"""


class DocumentTest(unittest.TestCase):
    def tearDown(self):
        # What a session shows last stays there under this name, where other tests look at what Python has of its own.
        vars(builtins).pop("_", None)

    def test_the_session(self):
        examples = doctest.DocTestParser().get_examples(SESSION)
        self.assertEqual(len(examples), SESSION.count(">>> "))
        told = []
        runner = doctest.DocTestRunner(verbose=False)
        runner.run(doctest.DocTest(examples, {}, "document", None, 0, SESSION), out=told.append)
        self.assertEqual([runner.failures, runner.tries, "".join(told)], [0, len(examples), ""])


if __name__ == "__main__":
    unittest.main()
