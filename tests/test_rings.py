"""unjump.rings: points [17] to [19], and [2] for them."""

import unittest

from helper import check_fresh, every_graph, exact, goals_of, is_orderly, is_way, mixed_graphs, must, renumbered
from unjump.rings import heads, nest, orderly, ring, two_ways

SMALL = [graph for count in (1, 2, 3) for graph in every_graph(count)]
FOUR = list(every_graph(4))
DRAWN = list(mixed_graphs(51, 250))
FORTY = list(mixed_graphs(53, 25, 40, 40))
KNOT = [("test", "x", "=", 0, 2, 1), ("sum", "x", "x", "+", 1, 2), ("sum", "x", "x", "+", 2, 1)]
LOOP = [("sum", "x", "x", "+", 1, 1), ("test", "x", "<", 3, 0, 2), ("end",)]
# A ring within a ring, a ring beside both, and a node with a way to itself behind them.
NESTED = [("sum", "a", 1, "+", 0, 1), ("test", "a", "<", 1, 2, 5), ("sum", "b", 1, "+", 0, 3),
          ("test", "b", "<", 1, 2, 4), ("sum", "c", 1, "+", 0, 1), ("sum", "d", 1, "+", 0, 6),
          ("test", "d", "<", 1, 5, 7), ("test", "e", "<", 1, 7, 8), ("end",)]
# A ring with two ways in, 2 and 3, within a ring of node 1 with one.
KNOT_IN_RING = [("sum", "a", 1, "+", 0, 1), ("test", "a", "<", 1, 3, 2), ("test", "b", "<", 1, 3, 4),
                ("sum", "c", 1, "+", 0, 2), ("test", "d", "<", 1, 1, 5), ("end",)]


def heads_by_words(graph):
    return sorted({goal for place, node in enumerate(graph) for goal in goals_of(node)
                   if goal <= place and must(graph, goal, place)})


def ring_by_words(graph, head):
    """The least set: begun with what it must have, and grown until it has all that it asks for."""
    within = {head} | {place for place, node in enumerate(graph)
                       if head in goals_of(node) and place >= head and must(graph, head, place)}
    while True:
        more = {place for place, node in enumerate(graph)
                if any(goal in within and goal != head for goal in goals_of(node))} - within
        if not more:
            return sorted(within)
        within |= more


class OrderlyTest(unittest.TestCase):
    def test_the_written_graphs_are_numbered(self):
        for graph in (KNOT, LOOP, NESTED, KNOT_IN_RING):
            self.assertEqual(renumbered(graph), graph)

    def test_written_ones(self):
        for graph in ([("end",)], [("spin",)], [("sum", "x", 1, "+", 1, 0)], LOOP, NESTED):
            self.assertIs(orderly(graph), True)
        for graph in (KNOT, KNOT_IN_RING):
            self.assertIs(orderly(graph), False)

    def test_by_its_words(self):
        seen = set()
        for graph in SMALL + FOUR + DRAWN + FORTY:
            self.assertIs(orderly(graph), is_orderly(graph), graph)
            seen.add((len(graph) == 40, orderly(graph)))
        self.assertEqual(len(seen), 4)

    def test_what_is_given_stays(self):
        check_fresh(self, orderly, KNOT)
        check_fresh(self, orderly, LOOP)


class HeadsTest(unittest.TestCase):
    def test_written_ones(self):
        self.assertEqual(exact(heads([("end",)])), "[]")
        self.assertEqual(exact(heads([("test", "x", "<", 1, 0, 0)])), "[0]")
        self.assertEqual(exact(heads(LOOP)), "[0]")
        self.assertEqual(exact(heads(NESTED)), "[1, 2, 5, 7]")
        self.assertEqual(exact(heads(KNOT)), "[]")
        self.assertEqual(exact(heads(KNOT_IN_RING)), "[1]")

    def test_by_its_words(self):
        for graph in SMALL + FOUR + DRAWN + FORTY:
            self.assertEqual(exact(heads(graph)), exact(heads_by_words(graph)), graph)

    def test_made_anew(self):
        for graph in (KNOT, LOOP, NESTED):
            check_fresh(self, heads, graph)


class RingTest(unittest.TestCase):
    def test_written_ones(self):
        self.assertEqual(exact(ring([("sum", "x", 1, "+", 1, 0)], 0)), "[0]")
        self.assertEqual(exact(ring(LOOP, 0)), "[0, 1]")
        self.assertEqual([ring(NESTED, head) for head in (1, 2, 5, 7)], [[1, 2, 3, 4], [2, 3], [5, 6], [7]])
        self.assertEqual(ring(KNOT_IN_RING, 1), [1, 2, 3, 4])

    def test_two_ways_back_to_one_head(self):
        graph = [("test", "x", "<", 1, 1, 2), ("sum", "a", 1, "+", 0, 0), ("sum", "b", 1, "+", 0, 0)]
        self.assertEqual((heads(graph), ring(graph, 0)), ([0], [0, 1, 2]))

    def test_by_its_words(self):
        for graph in SMALL + DRAWN + FORTY:
            for head in heads(graph):
                self.assertEqual(exact(ring(graph, head)), exact(ring_by_words(graph, head)), graph)

    def test_made_anew(self):
        check_fresh(self, ring, NESTED, 1)
        check_fresh(self, ring, [("sum", "x", 1, "+", 1, 0)], 0)


class NestTest(unittest.TestCase):
    def test_written_ones(self):
        self.assertEqual(exact(nest([("end",)])), "{}")
        self.assertEqual(exact(nest(KNOT)), "{}")
        self.assertEqual(exact(nest(LOOP)), "{0: None}")
        self.assertEqual(exact(nest(NESTED)), "{1: None, 2: 1, 5: None, 7: None}")

    def test_three_deep(self):
        graph = [("sum", "a", 1, "+", 0, 1), ("sum", "b", 1, "+", 0, 2), ("test", "c", "<", 1, 2, 3),
                 ("test", "d", "<", 1, 1, 4), ("test", "e", "<", 1, 0, 5), ("end",)]
        self.assertEqual(nest(graph), {0: None, 1: 0, 2: 1})

    def test_by_its_words(self):
        deep = 0
        for graph in SMALL + DRAWN + FORTY:
            rings = {head: ring_by_words(graph, head) for head in heads_by_words(graph)}
            told = nest(graph)
            self.assertIs(type(told), dict)
            self.assertEqual(sorted(told), sorted(rings))
            for head in rings:
                others = [other for other in rings if other != head and head in rings[other]]
                for other in others:
                    self.assertLess(set(rings[head]), set(rings[other]))
                least = min(others, key=lambda other: len(rings[other]), default=None)
                self.assertEqual(exact(told[head]), exact(least))
                deep = max(deep, len(others))
        self.assertGreater(deep, 2)

    def test_made_anew(self):
        for graph in (KNOT, LOOP, NESTED):
            check_fresh(self, nest, graph)


class TwoWaysTest(unittest.TestCase):
    def check(self, graph):
        told = two_ways(graph)
        self.assertIs(type(told), tuple)
        self.assertEqual([type(thing) for thing in told], [list, list, list])
        around, one, other = told
        for nodes in told:
            self.assertEqual([type(place) for place in nodes], [int] * len(nodes))
            self.assertEqual(len(set(nodes)), len(nodes))
            self.assertTrue(is_way(graph, nodes))
        self.assertIn(around[0], goals_of(graph[around[-1]]))
        for way in (one, other):
            self.assertEqual(way[0], 0)
            self.assertIn(way[-1], around)
            self.assertFalse(set(way[:-1]) & set(around))
        self.assertNotEqual(one[-1], other[-1])

    def test_written_ones(self):
        self.check(KNOT)
        self.check(KNOT_IN_RING)

    def test_none_just_where_it_is_orderly(self):
        seen = set()
        for graph in SMALL + FOUR + DRAWN + FORTY:
            seen.add((len(graph) == 40, is_orderly(graph)))
            if is_orderly(graph):
                self.assertIsNone(two_ways(graph))
            else:
                self.check(graph)
        self.assertEqual(len(seen), 4)

    def test_made_anew(self):
        for graph in (KNOT, KNOT_IN_RING, LOOP):
            check_fresh(self, two_ways, graph)


if __name__ == "__main__":
    unittest.main()
