"""Another way to tell what moments show: plain numbers, a statement at a time; and random programs."""

from farapart.procedures import Procedure
from farapart.programs import Program


def number(numbers, y, c):
    return ({**numbers, "": 0})[y] + c


def begun(procedure, given):
    return {name: dict(zip(procedure.params, given)).get(name, 0) for name in procedure.names()}


def given(numbers, statement):
    return [number(numbers, y, c) for y, c in statement[2]]


def behind(numbers, statement):
    """The numbers behind a statement that is no call."""
    if statement[0] == "set":
        return {**numbers, **{x: number(numbers, y, c) for x, y, c in statement[1]}}
    if statement[0] in ("most", "least"):
        best = max if statement[0] == "most" else min
        return {**numbers, statement[1]: best(number(numbers, y, c) for y, c in statement[2])}
    return numbers


def followed(program, name, numbers, steps):
    """What (name, place, numbers) steps lead to from the beginning of a procedure with these numbers."""
    place = 0
    for step in steps:
        index = step if isinstance(step, int) else step[1]
        begin, end, statement = program[name].way(index)
        assert begin == place
        if isinstance(step, int):
            numbers, place = behind(numbers, statement), end
            continue
        word, index, inner = step
        callee = program[statement[1]]
        inside = followed(program, statement[1], begun(callee, given(numbers, statement)), inner)
        if word == "in":
            assert step is steps[-1]
            return inside
        assert inside[1] == callee.size - 1
        numbers = {**numbers, **{x: inside[2][y] for x, y in zip(statement[3], callee.results)}}
        place = end
    return name, place, numbers


def shows(program, moment, start):
    first = program[program.first]
    return followed(program, program.first, begun(first, [start[x] for x in first.params]), moment)


def count(moment):
    return sum(1 if isinstance(step, int) else 1 + count(step[2]) for step in moment)


def step_lists(program, most):
    """All lists of steps of all indexes with at most so many ways, whether they are moments or not."""
    widest = max(len(program[name]) for name in program.names())
    found = [[[]]]
    for many in range(1, most + 1):
        level = []
        for inside in range(many):
            for inner in found[inside]:
                for ahead in found[many - 1 - inside]:
                    for index in range(widest):
                        if inside == 0 and inner == []:
                            level.append(ahead + [index])
                        level.append(ahead + [("call", index, inner)])
                        level.append(ahead + [("in", index, inner)])
        found.append(level)
    return [steps for level in found for steps in level]


SOURCES = {"plain": ["plain"], "high": ["plain", "high"], "low": ["plain", "low"]}


def random_part(rng, kinds, kind):
    fitting = [""] + [name for name in kinds if kinds[name] in SOURCES[kind]]
    return rng.choice(fitting), rng.randint(-3, 3)


def random_statement(rng, kinds, heads):
    """A statement for a procedure with these kinds; heads tells kinds, params and results of all procedures."""
    word = rng.choice(["skip", "set", "set", "set", "most", "least", "call", "call"])
    highs = [name for name in kinds if kinds[name] == "high"]
    lows = [name for name in kinds if kinds[name] == "low"]
    if word == "set":
        some = rng.sample(sorted(kinds), rng.randint(0, min(3, len(kinds))))
        return (word, [(x,) + random_part(rng, kinds, kinds[x]) for x in some])
    if word == "most" and highs:
        return (word, rng.choice(highs), [random_part(rng, kinds, "high") for _ in range(rng.randint(1, 3))])
    if word == "least" and lows:
        return (word, rng.choice(lows), [random_part(rng, kinds, "low") for _ in range(rng.randint(1, 3))])
    if word == "call":
        callee = rng.choice(sorted(heads))
        others, params, results = heads[callee]
        taken = []
        for y in results:
            fitting = [x for x in kinds if others[y] in SOURCES[kinds[x]] and x not in taken]
            if not fitting:
                return ("skip",)
            taken.append(rng.choice(fitting))
        return (word, callee, [random_part(rng, kinds, others[x]) for x in params], taken)
    return ("skip",)


def random_program(rng, widest=5):
    heads = {}
    for name in ["main", "f", "g"][:rng.randint(1, 3)]:
        names = ["a", "b", "c", "d"][:rng.randint(1, 4)]
        kinds = {x: rng.choice(["plain", "plain", "high", "low"]) for x in names}
        some = rng.sample(names, rng.randint(0, min(2, len(names))))
        others = rng.sample(names, rng.randint(0, min(2, len(names))))
        heads[name] = (kinds, some, others)
    procedures = {}
    for name, (kinds, params, results) in heads.items():
        size = rng.randint(1, 3)
        ways = [(rng.randrange(size), rng.randrange(size), random_statement(rng, kinds, heads))
                for _ in range(rng.randint(1, widest))]
        procedures[name] = Procedure(kinds, params, results, size, ways)
    return Program(procedures, "main")


def is_valid(program, name, steps, whole):
    """Whether a list of steps, as step_lists makes them, is a whole run or a moment of a procedure."""
    place = 0
    for at, step in enumerate(steps):
        index = step if isinstance(step, int) else step[1]
        if index >= len(program[name]):
            return False
        begin, end, statement = program[name].way(index)
        if begin != place or isinstance(step, int) == (statement[0] == "call"):
            return False
        place = end
        if isinstance(step, tuple) and step[0] == "in":
            return not whole and at == len(steps) - 1 and is_valid(program, statement[1], step[2], False)
        if isinstance(step, tuple) and not is_valid(program, statement[1], step[2], True):
            return False
    return not whole or place == program[name].size - 1
