"""unjump.musts: points [15] and [16], and [2] for them."""

import unittest

from helper import check_fresh, come_to, every_graph, exact, is_way, mixed_graphs, must, renumbered
from unjump.musts import musts, stands_above, way_round

SMALL = [graph for count in (1, 2, 3) for graph in every_graph(count)]
DRAWN = list(mixed_graphs(41, 120))
FORTY = list(mixed_graphs(43, 12, 40, 40))
KNOT = [("test", "x", "=", 0, 2, 1), ("sum", "x", "x", "+", 1, 2), ("sum", "x", "x", "+", 2, 1)]
DIAMOND = [("test", "x", "<", 1, 1, 2), ("sum", "a", 1, "+", 0, 3), ("sum", "b", 1, "+", 0, 3), ("end",)]


def musts_by_looking(graph):
    """For each node all that must be come through to it, by leaving each node out."""
    left_out = [come_to(graph, 0, (one,)) for one in range(len(graph))]
    return [[one for one in range(len(graph)) if other not in left_out[one]] for other in range(len(graph))]


class MustsTest(unittest.TestCase):
    def check(self, graph, told):
        with self.subTest(graph=graph):
            self.assertEqual(renumbered(graph), graph)
            self.assertEqual(exact(musts(graph)), exact(told))

    def test_one_node(self):
        self.check([("end",)], [None])
        self.check([("spin",)], [None])
        self.check([("sum", "x", "x", "+", 1, 0)], [None])
        self.check([("test", "x", "<", 1, 0, 0)], [None])

    def test_a_chain(self):
        self.check([("sum", "x", "x", "+", 1, place + 1) for place in range(39)] + [("end",)], [None] + list(range(39)))

    def test_ways_that_meet_again(self):
        self.check(DIAMOND, [None, 0, 0, 0])

    def test_a_test_both_of_whose_ways_are_one(self):
        self.check([("test", "x", "<", 1, 1, 1), ("end",)], [None, 0])

    def test_a_loop(self):
        self.check([("sum", "x", "x", "+", 1, 1), ("test", "x", "<", 3, 0, 2), ("end",)], [None, 0, 1])

    def test_a_ring_with_two_ways_in(self):
        self.check(KNOT, [None, 0, 0])

    def test_a_way_back_that_changes_an_answer(self):
        # Ahead of its way back node 2 seems to need 1.
        graph = [("test", "x", "=", 0, 5, 1), ("sum", "x", "x", "+", 1, 2), ("sum", "x", "x", "+", 2, 3),
                 ("test", "x", "=", 1, 4, 5), ("end",), ("sum", "x", "x", "+", 4, 2)]
        self.check(graph, [None, 0, 0, 2, 3, 0])

    def test_against_looking(self):
        for graph in SMALL + DRAWN + FORTY:
            told = musts(graph)
            through = musts_by_looking(graph)
            self.assertIs(type(told), list)
            self.assertIsNone(told[0])
            for place in range(1, len(graph)):
                self.assertIs(type(told[place]), int)
                self.assertLess(told[place], place)
                # The last one has all others above it.
                self.assertEqual(through[told[place]] + [place], through[place], graph)

    def test_made_anew(self):
        for graph in ([("end",)], KNOT, DIAMOND):
            check_fresh(self, musts, graph)


class StandsAboveTest(unittest.TestCase):
    def test_a_tree(self):
        tree = [None, 0, 1, 1, 0, 4, 3]
        above = {0: [0], 1: [0, 1], 2: [0, 1, 2], 3: [0, 1, 3], 4: [0, 4], 5: [0, 4, 5], 6: [0, 1, 3, 6]}
        for other in above:
            for one in above:
                self.assertIs(stands_above(tree, one, other), one in above[other], (one, other))

    def test_one_node(self):
        self.assertIs(stands_above([None], 0, 0), True)

    def test_just_where_it_must_be_come_through(self):
        for graph in SMALL + DRAWN + FORTY:
            tree = musts(graph)
            through = musts_by_looking(graph)
            for other in range(len(graph)):
                for one in range(len(graph)):
                    self.assertIs(stands_above(tree, one, other), one in through[other])

    def test_what_is_given_stays(self):
        check_fresh(self, stands_above, [None, 0, 1], 0, 2)
        check_fresh(self, stands_above, [None, 0, 1], 2, 1)


class WayRoundTest(unittest.TestCase):
    def check_way(self, graph, one, other):
        told = way_round(graph, one, other)
        self.assertIs(type(told), list)
        self.assertEqual([type(place) for place in told], [int] * len(told))
        self.assertEqual((told[0], told[-1]), (0, other))
        self.assertNotIn(one, told)
        self.assertEqual(len(set(told)), len(told))
        self.assertTrue(is_way(graph, told))

    def test_written_ones(self):
        self.assertEqual(way_round(DIAMOND, 1, 3), [0, 2, 3])
        self.assertEqual(way_round(DIAMOND, 2, 3), [0, 1, 3])
        self.assertEqual(way_round(DIAMOND, 3, 0), [0])
        self.assertEqual(way_round(KNOT, 2, 1), [0, 1])
        self.assertEqual(way_round(KNOT, 1, 2), [0, 2])

    def test_none(self):
        for other in range(4):
            self.assertIsNone(way_round(DIAMOND, 0, other))
            self.assertIsNone(way_round(DIAMOND, other, other))
        self.assertIsNone(way_round([("spin",)], 0, 0))

    def test_each_two_nodes(self):
        for graph in SMALL + DRAWN[:80] + FORTY[:4]:
            through = musts_by_looking(graph)
            for one in range(len(graph)):
                for other in range(len(graph)):
                    if one in through[other]:
                        self.assertIsNone(way_round(graph, one, other))
                    else:
                        self.check_way(graph, one, other)

    def test_the_looking_is_right(self):
        self.assertTrue(must(KNOT, 0, 2))
        self.assertFalse(must(KNOT, 1, 2))

    def test_made_anew(self):
        check_fresh(self, way_round, DIAMOND, 1, 3)
        check_fresh(self, way_round, DIAMOND, 3, 0)
        check_fresh(self, way_round, DIAMOND, 0, 3)


if __name__ == "__main__":
    unittest.main()
