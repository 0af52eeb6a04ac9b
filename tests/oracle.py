"""What Inner, Outer and tables tell, worked out by hand from short runs and from the words of the document."""

from runner import SOURCES, random_part

from farapart.facts import Facts
from farapart.far import far
from farapart.forms import Form
from farapart.plays import form_at, moments
from farapart.procedures import Procedure
from farapart.programs import Program
from farapart.roads import Roads


def begun_with(program, name):
    """The same procedures, with another first one."""
    return Program({other: program[other] for other in program.names()}, name)


def dicts_of(form, procedure, rests):
    """What each upper side and each lower side comes of, as two dicts."""
    told = {source: form[source] for source in [""] + procedure.names()}
    above = {source: told[source] for source in procedure.uppers()}
    below = {source: told[source] for source in procedure.lowers()}
    if rests:
        above["*"] = below["*"] = {"*": 0}
    return above, below


def gathered(program, told, rests):
    """The dict from (name, place, u, v, s, t) to the greatest a - b of the (name, place, form) that are told."""
    best = {}
    for name, place, form in told:
        above, below = dicts_of(form, program[name], rests)
        for u, sources in above.items():
            for v, others in below.items():
                for s, a in sources.items():
                    for t, b in others.items():
                        key = (name, place, u, v, s, t)
                        best[key] = max(best.get(key, a - b), a - b)
    return best


def short_inner(program, most):
    """What parts of runs with at most so many ways tell of Inner."""
    told = []
    for name in program.names():
        first = begun_with(program, name)
        told += [form_at(first, steps) for steps in moments(first, most)
                 if not steps or isinstance(steps[-1], int) or steps[-1][0] == "call"]
    return gathered(program, told, True)


def short_outer(program, most):
    """What moments with at most so many ways tell of Outer."""
    return gathered(program, [form_at(program, moment) for moment in moments(program, most)], False)


def greater(value, other):
    return other != "endless" and (value == "endless" or value > other)


def total(*parts):
    return "endless" if "endless" in parts else sum(parts)


def plain_parts(statement, side):
    if statement[0] == "set" and side in [x for x, _, _ in statement[1]]:
        return [(y, c) for x, y, c in statement[1] if x == side]
    if statement[0] in ("most", "least") and side == statement[1]:
        return list(statement[2])
    return [(side, 0)]


def what_is_wanted(program, inner, outer):
    """All (which, key, value) that a closed table must have, by the words of the document, one by one."""
    inside = {row[:6]: row[6] for row in inner}
    rows = {"inner": inside, "outer": {row[:6]: row[6] for row in outer}}
    for which in rows:
        rest = ["*"] if which == "inner" else []
        for name in program.names() if which == "inner" else [program.first]:
            procedure = program[name]
            come = {source: source if source in procedure.params or source == "*" else ""
                    for source in procedure.names() + ["", "*"]}
            for u in procedure.uppers() + rest:
                for v in procedure.lowers() + rest:
                    yield which, (name, 0, u, v, come[u], come[v]), 0
        for (name, p, a, b, s, t), value in rows[which].items():
            procedure = program[name]
            uppers, lowers = procedure.uppers() + rest, procedure.lowers() + rest
            for begin, q, statement in procedure.ways():
                if begin != p:
                    continue
                if statement[0] != "call":
                    for u in uppers:
                        for v in lowers:
                            for y, c in plain_parts(statement, u):
                                for z, d in plain_parts(statement, v):
                                    if (y, z) == (a, b):
                                        yield which, (name, q, u, v, s, t), total(value, c - d)
                    continue
                _, other, arguments, results = statement
                callee = program[other]
                given = dict(zip(callee.params, arguments))
                got = dict(zip(results, callee.results))
                for (third, end, ru, rv, sa, tb), more in inside.items():
                    if third == other and end == callee.size - 1:
                        for u in uppers:
                            for c in ways_to_get(u, a, ru, sa, got, given):
                                for v in lowers:
                                    for d in ways_to_get(v, b, rv, tb, got, given):
                                        yield which, (name, q, u, v, s, t), total(value, c - d, more)
                if which == "outer":
                    for u in callee.uppers():
                        for v in callee.lowers():
                            y, c = given.get(u, ("", 0))
                            z, d = given.get(v, ("", 0))
                            if (y, z) == (a, b):
                                yield which, (other, 0, u, v, s, t), total(value, c - d)


def ways_to_get(u, a, r, s, got, given):
    """By how much u can be more than a, behind a call whose r comes of s."""
    if u not in got:
        return [0] if (r, s) == ("*", "*") and u == a else []
    if got[u] != r:
        return []
    if s == "":
        return [0] if a == "" else []
    return [given[s][1]] if s in given and given[s][0] == a else []


def is_closed(program, inner, outer):
    """Whether rows that are of the right form are a closed table."""
    rows = {"inner": {row[:6]: row[6] for row in inner}, "outer": {row[:6]: row[6] for row in outer}}
    for which, key, value in what_is_wanted(program, inner, outer):
        if key not in rows[which] or greater(value, rows[which][key]):
            return False
    return True


def with_copy(program, name):
    """A program whose first procedure is a copy of one that nobody calls, with a number more that rests."""
    procedure = program[name]
    kinds = {x: procedure.kind(x) for x in procedure.names()}
    copied = Procedure({**kinds, "rest": "plain"}, procedure.params + ("rest",), [], procedure.size, procedure.ways())
    return Program({**{other: program[other] for other in program.names()}, "copy": copied}, "copy")


def wide_part(rng, kinds, kind, low, high):
    return random_part(rng, kinds, kind)[0], rng.randint(low, high)


def wide_statement(rng, kinds, heads, often, low, high):
    if rng.random() < often:
        callee = rng.choice(sorted(heads))
        others, params, results = heads[callee]
        taken = []
        for y in results:
            fitting = [x for x in kinds if others[y] in SOURCES[kinds[x]] and x not in taken]
            taken += [rng.choice(fitting)] if fitting else []
        if len(taken) == len(results):
            return ("call", callee, [wide_part(rng, kinds, others[x], low, high) for x in params], taken)
    for word, kind in (("most", "high"), ("least", "low")):
        some = [x for x in kinds if kinds[x] == kind]
        if some and rng.random() < 0.3:
            parts = [wide_part(rng, kinds, kind, low, high) for _ in range(rng.randint(1, 4))]
            return (word, rng.choice(some), parts)
    some = rng.sample(sorted(kinds), rng.randint(0, len(kinds)))
    return ("set", [(x,) + wide_part(rng, kinds, kinds[x], low, high) for x in some])


def wide_program(rng, most=3, low=None, high=None):
    """A random program with runs that go through all places, and perhaps calls, rings and calls within calls."""
    if low is None:
        low, high = rng.choice([(-3, 3), (-2, 0), (-1, 1), (0, 0), (-10 ** 30, 10 ** 30), (0, 2)])
    often = rng.choice([0.1, 0.3, 0.5])
    heads = {}
    for name in ["main", "f", "g"][:rng.randint(1, most)]:
        names = ["a", "b", "c", "d"][:rng.randint(2, 4)]
        kinds = {x: rng.choice(["plain", "plain", "plain", "high", "low"]) for x in names}
        heads[name] = (kinds, rng.sample(names, rng.randint(0, 2)), rng.sample(names, rng.randint(0, 2)))
    procedures = {}
    for name, (kinds, params, results) in heads.items():
        size = rng.randint(1, 4)
        ends = [(place, place + 1) for place in range(size - 1)]
        ends += [(rng.randrange(size), rng.randrange(size)) for _ in range(rng.randint(0, 3))]
        ways = [(begin, end, wide_statement(rng, kinds, heads, often, low, high)) for begin, end in ends]
        procedures[name] = Procedure(kinds, params, results, size, ways)
    return Program(procedures, "main")


def whole_form(program, name, run):
    """The Form at the end of a whole run of a procedure."""
    return form_at(begun_with(program, name), run)[2]


def part_form(program, name, steps):
    """The Form behind steps of a procedure, from any place, by the names ahead of them."""
    form = Form.itself(program[name])
    for step in steps:
        statement = program[name].way(step if isinstance(step, int) else step[1])[2]
        if isinstance(step, int):
            form = form.after(statement)
        else:
            form = form.behind(statement, whole_form(program, statement[1], step[2]))
    return form


def wide_facts(rng, program):
    """Random facts of the parameters of the first procedure, which some start keeps."""
    params = list(program[program.first].params)
    start = {**{x: rng.randint(-5, 5) for x in params}, "": 0}
    pairs = [(rng.choice(sorted(start)), rng.choice(sorted(start))) for _ in range(rng.randint(0, 4))]
    return Facts(params, [(x, y, start[x] - start[y] + rng.randint(0, 3)) for x, y in pairs])


def all_spots(program):
    """All spots of a program that are told of, also those that are not come to."""
    return [(name, place, x, y) for name in program.names() for place in range(program[name].size)
            for x in program[name].uppers() for y in program[name].lowers()]


def difference(program, spot, rows, start):
    """x - y of what the last row shows, which has to be a moment at the spot."""
    roads = Roads(program, rows)
    last = len(rows) - 1
    assert roads.kind(last) == "moment" and roads.procedure(last) == program.first
    name, place, numbers = roads.shows(last, start)
    assert (name, place) == spot[:2]
    return {**numbers, "": 0}[spot[2]] - {**numbers, "": 0}[spot[3]]


def fixed(start):
    """The Facts that only one start keeps."""
    return Facts(list(start), [fact for x, c in start.items() for fact in ((x, "", c), ("", x, -c))])


def renamed_all(program, facts, rng):
    """A program and facts with all names renamed, and the dicts from the old names of names and of procedures."""
    within = {"": "", **dict(zip("abcdrwnmpqhl", rng.sample(["a", "bb", "c", "xyz", "d", "k", "r", "ww", "z", "o", "p", "s"], 12)))}
    names = dict(zip(program.names(), rng.sample(["zz", "main", "f", "aa"], len(program))))
    inner = {name: program[name].renamed({x: within[x] for x in program[name].names()}) for name in program.names()}
    others = Facts([within[x] for x in facts.names()], [(within[x], within[y], c) for x, y, c in facts.bounds()])
    return Program(inner, program.first).renamed(names), others, within, names


def renamed_spot(spot, within, names):
    """A spot, or a claim, of a renamed program."""
    name, place, x, y = spot[:4]
    return (names[name], place, within[x], within[y]) + spot[4:]


def some_claims(rng, program, facts, many):
    """Random claims, most of them near to what far tells."""
    found = []
    for spot in rng.choices(all_spots(program), k=many):
        told = far(program, facts, spot)
        found.append(spot + ((told if isinstance(told, int) else 0) + rng.choice([-5, -1, 0, 0, 1, 10 ** 40]),))
    return found
