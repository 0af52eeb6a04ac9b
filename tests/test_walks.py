"""Promise [50]: walks."""

import copy
import random
import unittest

from farapart.walks import heaviest, ring, walk

ARROWS = [("a", "b", 3), ("b", "c", -1), ("c", "b", 2), ("a", "d", 5)]


def random_web(rng, tuples):
    names = ["a", "b", "c", "d", "e", "f"][:rng.randint(1, 6)]
    nodes = [(name, rng.randint(0, 1)) for name in names] if tuples else names
    low, high = rng.choice([(-3, 3), (-4, 1), (-2, 0), (0, 0), (0, 2), (-10 ** 40, 10 ** 40)])
    arrows = [(rng.choice(nodes), rng.choice(nodes), rng.randint(low, high)) for _ in range(rng.randint(0, 9))]
    begins = [(rng.choice(nodes), rng.randint(low, high)) for _ in range(rng.randint(0, 4))]
    return nodes, arrows, begins


def by_hand(nodes, arrows, begins):
    """The greatest weights of walks of few arrows; endless what a node leads to that such a walk leads back to."""
    together = {(x, x): 0 for x in nodes}
    for _ in range(2 * len(nodes) + 1):
        for x, y, weight in arrows:
            for begin in nodes:
                if (begin, x) in together:
                    found = together[begin, x] + weight
                    together[begin, y] = max(together.get((begin, y), found), found)
    gains = {x for x in nodes if together[x, x] > 0}
    found = {}
    for node, weight in begins:
        for goal in nodes:
            if (node, goal) in together:
                if any((node, x) in together and (x, goal) in together for x in gains):
                    found[goal] = "endless"
                elif found.get(goal) != "endless":
                    best = weight + together[node, goal]
                    found[goal] = max(found.get(goal, best), best)
    return found


class WalksTest(unittest.TestCase):
    def follow(self, arrows, node, indexes):
        """The nodes that arrows lead to one after another, and their weight."""
        nodes, total = [node], 0
        for index in indexes:
            self.assertIs(type(index), int)
            begin, end, weight = arrows[index]
            self.assertEqual(begin, nodes[-1])
            nodes.append(end)
            total += weight
        return nodes, total

    def check(self, nodes, arrows, begins):
        expected = by_hand(nodes, arrows, begins)
        found = heaviest(arrows, begins)
        self.assertEqual(found, expected, (arrows, begins))
        self.assertEqual(list(found), sorted(found))
        for goal in nodes + ["zz"]:
            self.check_goal(arrows, begins, goal, expected.get(goal))

    def check_goal(self, arrows, begins, goal, weight):
        told, turned = walk(arrows, begins, goal), ring(arrows, begins, goal)
        if weight is None or weight == "endless":
            self.assertIsNone(told)
        else:
            self.assertIsInstance(told, tuple)
            begin, indexes = told
            nodes, total = self.follow(arrows, begins[begin][0], indexes)
            self.assertEqual([nodes[-1], begins[begin][1] + total], [goal, weight])
            self.assertEqual(len(nodes), len(set(nodes)))
        if weight != "endless":
            self.assertIsNone(turned)
        else:
            self.assertIsInstance(turned, tuple)
            begin, lead, middle, tail = turned
            self.assertEqual([type(indexes) for indexes in turned[1:]], [list, list, list])
            at = self.follow(arrows, begins[begin][0], lead)[0][-1]
            nodes, gain = self.follow(arrows, at, middle)
            self.assertEqual([nodes[-1], gain > 0], [at, True])
            self.assertEqual(self.follow(arrows, at, tail)[0][-1], goal)

    def test_the_example(self):
        self.assertEqual([heaviest(ARROWS, [("a", 0)]), heaviest(ARROWS[:2], [("a", 1)]),
                          ring(ARROWS, [("a", 0)], "d")],
                         [{"a": 0, "b": "endless", "c": "endless", "d": 5}, {"a": 1, "b": 4, "c": 3}, None])

    def test_against_all_walks_of_few_arrows(self):
        rng = random.Random(50)
        for index in range(1500):
            self.check(*random_web(rng, index % 2 == 0))

    def test_webs_of_many_kinds(self):
        big = 10 ** 39
        for nodes, arrows, begins in [
            ("ab", [("a", "b", 1), ("a", "b", 4), ("a", "b", 2)], [("a", 0)]),
            ("a", [("a", "a", 0)], [("a", 3)]), ("a", [("a", "a", -1)], [("a", 3)]), ("a", [("a", "a", 1)], [("a", 3)]),
            ("abc", [("a", "b", 5), ("b", "a", -5), ("b", "c", 1)], [("a", 0)]),
            ("abc", [("a", "b", 5), ("b", "a", -6), ("b", "c", 1)], [("a", 0), ("c", 7)]),
            ("abc", [("a", "b", 5), ("b", "a", -4), ("b", "c", 1)], [("a", 0)]),
            ("abcd", [("c", "d", 1), ("d", "c", 1), ("a", "b", 2), ("c", "a", 9)], [("a", 0)]),
            ("abcd", [("a", "c", 1), ("c", "d", 1), ("d", "c", 1), ("a", "b", 2)], [("a", 0)]),
            ("ab", [("a", "b", 1)], [("a", 1), ("a", 9), ("a", 4), ("b", 10), ("b", 2)]),
            ("ab", [("a", "b", 1)], [("a", 1), ("a", 9), ("a", 4), ("b", 11), ("b", 2)]),
            ("abc", [("a", "b", big), ("b", "c", -2 * big), ("c", "a", big)], [("a", -big)]),
            ("abc", [("a", "b", big), ("b", "c", -2 * big), ("c", "a", big + 1)], [("a", -big)]),
            ("ab", [], []), ("ab", [("a", "b", 1)], []), ("ab", [], [("b", -7)]),
        ]:
            self.check(list(nodes), arrows, begins)
        pairs = [(("a", 1, "*"), ("a", 2, ""), 4), (("a", 2, ""), ("a", 1, "*"), -4)]
        self.assertEqual(heaviest(pairs, [(("a", 1, "*"), 1)]), {("a", 1, "*"): 1, ("a", 2, ""): 5})
        self.assertEqual(walk(pairs, [(("a", 1, "*"), 1)], ("a", 2, "")), (0, [0]))
        self.assertIsNone(walk(pairs, [(("a", 1, "*"), 1)], ("a", 2, "x")))
        self.assertIsNone(ring(pairs, [(("a", 1, "*"), 1)], ("a", 2, "x")))

    def test_long_webs(self):
        names = [chr(97 + at // 26) + chr(97 + at % 26) for at in range(40)]
        chain = [(x, y, -1) for x, y in zip(names, names[1:])] + [(names[-1], names[0], 39)]
        self.check(names, chain, [(names[0], 5)])
        self.check(names, chain[:-1] + [(names[-1], names[0], 40)], [(names[0], 5)])
        rng = random.Random(51)
        for _ in range(20):
            arrows = [(rng.choice(names), rng.choice(names), rng.randint(-9, 2)) for _ in range(60)]
            self.check(names, arrows, [(rng.choice(names), rng.randint(-9, 9)) for _ in range(10)])

    def test_what_is_told_and_passed_is_its_callers(self):
        arrows, begins = list(ARROWS), [("a", 0)]
        before = copy.deepcopy((arrows, begins))
        for _ in range(2):
            told = heaviest(arrows, begins)
            self.assertEqual(told, {"a": 0, "b": "endless", "c": "endless", "d": 5})
            told.clear()
            found = walk(arrows, begins, "d")
            self.assertEqual(found, (0, [3]))
            found[1].clear()
            lists = ring(arrows, begins, "c")
            self.check_goal(arrows, begins, "c", "endless")
            for indexes in lists[1:]:
                indexes.clear()
        self.assertEqual((arrows, begins), before)


if __name__ == "__main__":
    unittest.main()
