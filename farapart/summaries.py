"""Summaries: how much whole runs of procedures make differences greater, and what shows it.

What is found of passages [see sides], whose sides are results or REST, is found in levels: at each level, calls
count as what was found of them at earlier levels. So what is found rests on what was found earlier
alone, and a passage that gets greater by itself is told from one that only gets greater.
"""

from farapart.sides import REST, arrows_of, begins_of
from farapart.webs import Weighing, leads, trace


class Finding:
    """What was found of a passage at a level: a weight, by which a difference gets greater, and what shows it.

    For an integer, walk is the list of the arrows of a part with this weight, and inside has all passages
    that it rests on. For "endless", ground is a tuple (word, lead, middle, tail) of lists of arrows: lead and
    tail lead to what makes it endless and from there to the end: a "ring", an endless "arrow", or,
    without these two, a walk that rests on a "deeper" one of the same passage with a lesser weight.
    """

    def __init__(self, level, weight, walk, inside, ground):
        self.level = level
        self.weight = weight
        self.walk = walk
        self.inside = inside
        self.ground = ground


class Summaries:
    """What is found of all passages of a program."""

    def __init__(self, program):
        self._program = program
        self._arrows = {name: arrows_of(program, name) for name in program.names()}
        self._findings = {}
        self._firsts = {}
        self._weighings = {}
        self._level = 0
        self._find()

    def last_level(self):
        """Return the number of the last level."""
        return self._level

    def weighing(self, name, s, t):
        """Return the Weighing of a procedure from the sources s and t, or None if none of its sides comes of them."""
        return self._weighings.get((name, s, t))

    def weighings(self):
        """Return the list of (name, s, t, weighing) of all there are."""
        return [(name, s, t, weighing) for (name, s, t), weighing in self._weighings.items()]

    def arrows(self, name):
        """Return the list of the arrows of a procedure."""
        return list(self._arrows[name])

    def first_found(self, passage):
        """Return the Finding of some run with this passage, which rests on first ones alone; None if there is none."""
        return self._firsts.get(passage)

    def found_behind(self, passage, level):
        """Return the Finding that there was of a passage behind a level."""
        found = [finding for finding in self._findings[passage] if finding.level <= level]
        return found[-1]

    def last_found(self, passage):
        """Return the last Finding of a passage."""
        return self._findings[passage][-1]

    def first_weight(self, walk):
        """Return the weight of a walk whose calls go along the first runs that were found."""
        inner = [self._firsts[arrow.passage].weight for arrow in walk if arrow.passage is not None]
        return sum([arrow.number for arrow in walk]) + sum(inner)

    def best_weight(self, walk, level):
        """Return the weight of a walk whose calls go along the best runs behind a level."""
        inner = [self.found_behind(arrow.passage, level).weight for arrow in walk if arrow.passage is not None]
        return sum([arrow.number for arrow in walk]) + sum(inner)

    def web(self, arrows):
        """Return the web of those of a list of arrows that can be gone along, with their indexes in the list."""
        found = {}
        for index, arrow in enumerate(arrows):
            weight = self._weight_of(arrow)
            if weight is not None:
                found.setdefault(arrow.origin, []).append((index, arrow.goal, weight))
        return found

    def _weight_of(self, arrow):
        """Return how much an arrow makes a difference greater, "endless", or None if it cannot be gone along."""
        if arrow.passage is None:
            return arrow.number
        if arrow.passage not in self._findings:
            return None
        weight = self._findings[arrow.passage][-1].weight
        return weight if weight == "endless" else arrow.number + weight

    def _find(self):
        left = self._program.names()
        while left:
            self._level += 1
            webs = {name: self.web(self._arrows[name]) for name in left}
            changed = {name: True for name in left if self._find_in(name, webs[name], self._level)}
            left = [name for name in self._program.names() if self._calls_one(name, changed)]

    def _calls_one(self, name, changed):
        return any([callee in changed for callee in self._program.called(name)])

    def _find_in(self, name, web, level):
        """Look at a procedure at a level; return whether anything new was found of its passages."""
        procedure = self._program[name]
        begins = begins_of(name, procedure, procedure.uppers() + [REST], procedure.lowers() + [REST])
        found = False
        for (s, t), nodes in begins.items():
            weighing = Weighing(web, nodes)
            self._weighings[name, s, t] = weighing
            goals = {(name, u, v, s, t): _goal(procedure, name, u, v) for u, v in _outcomes(procedure)}
            come_to = {passage: goal for passage, goal in goals.items() if goal in weighing.weights}
            self._note_firsts(come_to, web, nodes, level)
            news = [self._note(passage, goal, weighing, level) for passage, goal in come_to.items()]
            found = found or any(news)
        return found

    def _note_firsts(self, goals, web, begins, level):
        """Keep a walk for each of the passages that was not found before."""
        new = [passage for passage in goals if passage not in self._firsts]
        ahead = leads(web, begins) if new else {}
        for passage in new:
            walk = self._walk(passage, trace(ahead, goals[passage])[1])
            self._firsts[passage] = Finding(level, self.first_weight(walk), walk, {}, None)

    def _note(self, passage, goal, weighing, level):
        """Keep what a weighing tells of a passage at a level; return whether it is new."""
        weight = weighing.weights[goal]
        found = self._findings.setdefault(passage, [])
        if found and found[-1].weight in ("endless", weight):
            return False
        if weight == "endless":
            word, _, lead, middle, tail = weighing.why_endless(goal)
            ground = (word, self._walk(passage, lead), self._walk(passage, middle), self._walk(passage, tail))
            found.append(Finding(level, "endless", None, None, ground))
            return True
        walk = self._walk(passage, weighing.best_walk(goal)[1])
        inside = self._inside(walk, level)
        if passage in inside:
            found.append(Finding(level, "endless", None, None, ("deeper", [], walk, [])))
        else:
            found.append(Finding(level, weight, walk, inside, None))
        return True

    def _walk(self, passage, indexes):
        return [self._arrows[passage[0]][index] for index in indexes]

    def _inside(self, walk, level):
        """Return the dict whose keys are all passages that a walk rests on, as they were ahead of a level."""
        found = {}
        for arrow in walk:
            if arrow.passage is not None:
                found[arrow.passage] = True
                found.update(self.found_behind(arrow.passage, level - 1).inside)
        return found


def _goal(procedure, name, u, v):
    return (name, procedure.size - 1, u, v)


def _outcomes(procedure):
    """Return the list of the pairs of sides of passages at the end of a procedure."""
    ends = [REST] + list(procedure.results)
    return [(u, v) for u in ends for v in ends]


def fresh_summaries(program):
    """Return the Summaries of a program."""
    return Summaries(program)
