"""Walks: the heaviest ways along arrows with weights, and the rings that make them endless."""

from farapart.webs import Weighing


def heaviest(arrows, begins):
    """Return the dict from the nodes to which a walk leads to the greatest weight, or "endless"."""
    weights = Weighing(_web(arrows), begins).weights
    return {node: weights[node] for node in sorted(weights)}


def walk(arrows, begins, goal):
    """Return (begin, indexes) of a walk to a node with the greatest weight, or None if there is none."""
    weighing = Weighing(_web(arrows), begins)
    if weighing.weights.get(goal, "endless") == "endless":
        return None
    return weighing.best_walk(goal)


def ring(arrows, begins, goal):
    """Return (begin, lead, ring, tail) of walks that make a node endless, or None if it is not."""
    weighing = Weighing(_web(arrows), begins)
    if weighing.weights.get(goal) != "endless":
        return None
    _, begin, lead, middle, tail = weighing.why_endless(goal)
    return begin, lead, middle, tail


def _web(arrows):
    web = {}
    for index, (begin, end, weight) in enumerate(arrows):
        web.setdefault(begin, []).append((index, end, weight))
    return web
