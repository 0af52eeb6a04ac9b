"""Webs: nodes and the arrows between them, with weights, and the heaviest walks along these.

A web is a dict from nodes to the lists of the arrows from them: tuples (index, node, weight) of the
index that the arrow has, the node to which it leads, and an integer or "endless". Begins are a
list of tuples (node, weight) of integers. What leads to nodes is told by a dict from each to a tuple
(the node ahead of it, the index of the arrow between them), or (None, the index of a begin).
"""


class Weighing:
    """The greatest weights of walks from begins to all nodes to which a walk leads.

    weights is the dict from these nodes to integers or "endless", ahead tells the heaviest walks to
    those with integers. grounds tells what makes nodes endless: a list of tuples (word, begin, indexes, end)
    of "ring" and a ring whose weight is above 0, or "arrow" and an endless arrow.
    """

    def __init__(self, web, begins):
        self._web = web
        self._begins = begins
        self.weights = {}
        self.ahead = {}
        self.grounds = []
        self._weigh()

    def best_walk(self, goal):
        """Return (begin, indexes) of a heaviest walk to a node whose weight is an integer."""
        return trace(self.ahead, goal)

    def why_endless(self, goal):
        """Return (word, begin, lead, middle, tail) of an endless node: what makes it endless and how to go there."""
        for word, start, middle, end in self.grounds:
            tails = leads(self._web, [(end, 0)])
            if goal in tails:
                begin, lead = trace(leads(self._web, self._begins), start)
                return word, begin, lead, middle, trace(tails, goal)[1]
        return None

    def _weigh(self):
        for index, (node, weight) in enumerate(self._begins):
            if node not in self.weights or weight > self.weights[node]:
                self.weights[node] = weight
                self.ahead[node] = (None, index)
        fresh = list(self.weights)
        while fresh:
            better = self._go_on(fresh)
            self._look_for_rings(better)
            fresh = [node for node in better if self.weights[node] != "endless"]

    def _go_on(self, fresh):
        """Go one arrow further from the fresh nodes; return the list of those that got heavier by it."""
        web, weights, ahead = self._web, self.weights, self.ahead
        better = {}
        for node in fresh:
            begun = weights[node]
            if begun == "endless":
                continue
            for index, target, weight in web.get(node, ()):
                known = weights.get(target)
                if known == "endless":
                    continue
                if weight == "endless":
                    self._let_be_endless("arrow", node, [index], target)
                elif known is None or begun + weight > known:
                    weights[target] = begun + weight
                    ahead[target] = (node, index)
                    better[target] = True
        return list(better)

    def _look_for_rings(self, better):
        """Make endless what follows rings. As long as a ring goes on to get heavier, it leads to itself in ahead."""
        known = {None: True}
        for node in better:
            passed = {}
            at = node
            while at not in known and at not in passed and self.weights[at] != "endless":
                passed[at] = True
                at = self.ahead[at][0]
            if at in passed:
                self._let_be_endless("ring", at, self._ring_at(at), at)
            known.update(passed)

    def _ring_at(self, node):
        """Return the list of the indexes of the arrows of a ring in ahead."""
        at, index = self.ahead[node]
        found = [index]
        while at != node:
            at, index = self.ahead[at]
            found.append(index)
        return found[::-1]

    def _let_be_endless(self, word, begin, indexes, end):
        self.grounds.append((word, begin, indexes, end))
        left = [end]
        while left:
            node = left.pop()
            if self.weights.get(node) != "endless":
                self.weights[node] = "endless"
                left.extend([target for _, target, _ in self._web.get(node, ())])


def leads(web, begins):
    """Return the dict that tells walks with as few arrows as can be to all nodes to which a walk leads."""
    ahead = {}
    for index, (node, _) in enumerate(begins):
        if node not in ahead:
            ahead[node] = (None, index)
    fresh = list(ahead)
    while fresh:
        found = []
        for node in fresh:
            for index, target, _ in web.get(node, ()):
                if target not in ahead:
                    ahead[target] = (node, index)
                    found.append(target)
        fresh = found
    return ahead


def trace(ahead, goal):
    """Return (begin, indexes): the index of the begin and those of the arrows that lead to a node."""
    found = []
    node, index = ahead[goal]
    while node is not None:
        found.append(index)
        node, index = ahead[node]
    return index, found[::-1]
