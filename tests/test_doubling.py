"""unjump.doubling: point [20] with [2], [3], [12] and [13]."""

import unittest

from helper import (Draw, check_fresh, doors, drawn_graphs, every_graph, exact, goals_of, is_orderly, led_to,
                    mixed_graphs, of_shape, padded, renumbered, sets_on_rings, with_goals)
from unjump import errors
from unjump.doubling import doubled
from unjump.nodes import run_graph

KNOT = of_shape([(2, 1), (2,), (1,)])


def count_of(graph):
    """To how many nodes point [20] counts a graph, at most forty of which are never refused."""
    sets = sets_on_rings(graph)
    count = len(graph) - sum(len(together) for together in sets)
    for together in sets:
        just_one = all(len({goal for goal in goals_of(graph[place]) if goal in together}) == 1 for place in together)
        count += 2 * len(together) - 1 if just_one else 2 ** len(together) - 1
    return count


def is_never_refused(graph):
    return len(graph) <= 6 or count_of(graph) <= 40


class DoublingCase(unittest.TestCase):
    def check(self, graph):
        """All that point [20] asks of what is told; tells whether anything was."""
        try:
            told = doubled(graph)
        except errors.TooGreat as refusal:
            self.assertIs(type(refusal), errors.TooGreat)
            self.assertIsNone(refusal.row)
            self.assertFalse(is_never_refused(graph), graph)
            self.assertFalse(is_orderly(graph), graph)
            return False
        self.assertIs(type(told), tuple)
        self.assertEqual([type(thing) for thing in told], [list, list])
        new, origins = told
        self.assertEqual([type(origin) for origin in origins], [int] * len(new))
        self.assertLessEqual(len(new), 40)
        self.assertEqual(exact(renumbered(new)), exact(new))
        self.assertTrue(is_orderly(new), graph)
        self.assertEqual(origins[0], 0)
        self.assertEqual(set(origins), set(range(len(graph))))
        for node, origin in zip(new, origins):
            self.assertEqual(exact(with_goals(node, [origins[goal] for goal in goals_of(node)])), exact(graph[origin]))
        if is_orderly(graph):
            self.assertEqual(exact(told), exact((graph, list(range(len(graph))))))
        else:
            self.assertGreater(len(new), len(graph))
        return True

    def check_told(self, graph):
        self.assertTrue(self.check(graph), graph)


class DoubledTest(DoublingCase):
    def test_a_written_one(self):
        new, origins = doubled(KNOT)
        self.check_told(KNOT)
        self.assertEqual((len(new), sorted(origins)[0]), (4, 0))

    def test_orderly_graphs_stay(self):
        for graph in ([("end",)], [("spin",)], [("sum", "x", "x", "+", 1, 0)], [("test", "x", "<", 1, 0, 0)]):
            self.assertEqual(exact(doubled(graph)), exact((graph, [0])))
        for graph in drawn_graphs(61, 150, 1, 40, goals="up"):
            self.assertTrue(is_orderly(graph))
            self.check_told(graph)
        for graph in drawn_graphs(62, 10, 40, 40, goals="up"):
            self.assertEqual(exact(doubled(graph)), exact((graph, list(range(40)))))

    def test_every_small_graph(self):
        for count in (1, 2, 3):
            for graph in every_graph(count):
                self.check_told(graph)

    def test_every_graph_of_four_nodes_that_is_not_orderly(self):
        graphs = [graph for graph in every_graph(4) if not is_orderly(graph)]
        self.assertEqual(len(graphs), 2288)
        for graph in graphs:
            self.check_told(graph)

    def test_drawn_graphs(self):
        seen = set()
        for graph in mixed_graphs(63, 800):
            seen.add((is_orderly(graph), self.check(graph)))
        self.assertEqual(seen, {(True, True), (False, True), (False, False)})

    def test_made_anew(self):
        for graph in (KNOT, [("end",)], [("sum", "x", "x", "+", 1, 0)]):
            check_fresh(self, doubled, graph)

    def test_the_same_runs(self):
        draw = Draw(65)
        words, turns = set(), 0
        for graph in mixed_graphs(67, 300, 3, 14):
            if not is_orderly(graph) and self.check(graph):
                new = doubled(graph)[0]
                turns += 1
                for most in (0, 1, 7, 60):
                    memory = draw.memory()
                    told = run_graph(new, memory, most)
                    self.assertEqual(exact(told), exact(run_graph(graph, memory, most)))
                    words.add(told[1])
        self.assertEqual(words, {"end", "fault", "on"})
        self.assertGreater(turns, 60)


class NeverRefusedTest(DoublingCase):
    def test_at_most_six_nodes(self):
        count = 0
        for tests in (10, 9, 7):
            for graph in drawn_graphs(71 + tests, 1200, 5, 6, tests=tests, ends=10 - tests):
                self.check_told(graph)
                count += not is_orderly(graph)
        self.assertGreater(count, 800)

    def test_six_nodes_that_count_much(self):
        # All six lie on a ring together, and the five without the start do, too.
        graph = of_shape([(1, 3), (2, 3), (3, 4), (4, 5), (5, 1), (0, 1)])
        self.assertEqual(count_of(graph), 63)
        self.check_told(graph)
        graph = of_shape([(1, 3), (2, 3), (3, 4), (4, 5), (5, 1), (2, 1)])
        self.assertEqual(count_of(graph), 32)
        self.check_told(graph)

    def test_rings_of_which_each_node_goes_to_one(self):
        # Twenty nodes on one ring count thirty-nine; they are come to at two, three or twelve of them.
        for entered in ((1, 2), (1, 11), (1, 20), (20, 19), (5, 4), (11, 10)):
            shape = [entered] + [(place % 20 + 1,) for place in range(1, 21)]
            graph = of_shape(shape)
            self.assertEqual((len(graph), count_of(graph)), (21, 40))
            self.check_told(graph)
        for entered, size in (((0, 7, 14), 19), (tuple(range(12)), 14), (tuple(range(0, 14, 2)), 17)):
            for leaving in (None, 0, 5):
                tests = len(entered) - 1
                shape = led_to([tests + door for door in entered], 0)
                for place in range(size):
                    after = tests + (place + 1) % size
                    shape.append((after, tests + size) if place == leaving else (after, after) if place % 3 == 1 else (after,))
                graph = of_shape(shape + [()])
                left = 40 - count_of(graph)
                self.assertGreaterEqual(left, 0)
                graph = of_shape(padded(shape + [()], left))
                self.assertEqual(count_of(graph), 40)
                self.check_told(graph)

    def test_counts_that_come_to_just_forty(self):
        draw = Draw(73)
        seen = []
        for turn in range(400):
            shape = draw.sets_in_a_row(1 + draw.below(4))
            left = 40 - count_of(of_shape(shape))
            if left >= 0:
                graph = of_shape(padded(shape, left))
                self.assertEqual(count_of(graph), 40)
                self.check_told(graph)
                seen.append(len([1 for together in sets_on_rings(graph) if len(doors(graph, together)) > 1]))
        self.assertGreater(len(seen), 150)
        self.assertGreaterEqual(max(seen), 3)

    def test_five_nodes_that_count_thirty_one(self):
        draw = Draw(75)
        for turn in range(300):
            ring = [((place + 1) % 5 + 1, 1 + draw.below(5)) for place in range(4)] + [(1, 6)]
            graph = of_shape([(1 + draw.below(5), 1 + draw.below(5))] + ring + [()])
            self.assertIn(count_of(graph), (11, 33))
            graph = of_shape(padded(of_goals(graph), 40 - count_of(graph)))
            self.assertEqual(count_of(graph), 40)
            self.check_told(graph)

    def test_rings_within_rings_with_several_doors(self):
        shapes = (
            # A ring of 1 and 5 about a ring of 2, 3 and 4 with three doors.
            [(1,), (2, 6), (3, 5), (4, 5), (2, 5), (1, 3), (4, 7), ()],
            # Two rings with two doors each, within one with two.
            [(1, 4), (2, 3), (3, 4), (2, 4), (5, 6), (6, 1), (5, 7), ()],
            # A ring with two doors, in which a ring with two doors is left without either of both.
            [(1, 2), (3, 4), (4, 3), (4, 1), (3, 2)])
        for shape in shapes:
            graph = of_shape(shape)
            self.assertFalse(is_orderly(graph))
            self.check_told(graph)


class FewCopiesTest(DoublingCase):
    def test_the_head_that_needs_the_fewest_copies(self):
        # A ring of thirty-eight nodes, come to at a node and at the one before it, needs but one copy.
        for entered in ((1, 38), (38, 1), (5, 6), (6, 5)):
            graph = of_shape([entered] + [(place % 38 + 1,) for place in range(1, 39)])
            self.assertEqual(len(graph), 39)
            self.check_told(graph)

    def test_only_what_is_come_to_is_copied(self):
        # Of the ring of six only the two nodes ahead of the head are come to without it.
        graph = of_shape([(1, 5), (2,), (3,), (4,), (5,), (6,), (1,)])
        new, origins = doubled(graph)
        self.assertEqual(len(new), 9)
        self.check_told(graph)


class RefusedTest(DoublingCase):
    def test_forty_nodes_that_are_not_orderly(self):
        graph = of_shape(padded([(2, 1), (2,), (1,)], 37))
        self.assertEqual(len(graph), 40)
        self.assertFalse(self.check(graph))
        count = 0
        for graph in mixed_graphs(77, 100, 40, 40):
            if not is_orderly(graph):
                self.assertFalse(self.check(graph))
                count += 1
        self.assertGreater(count, 40)

    def test_thirty_nine_nodes_may_come_to_forty(self):
        graph = of_shape(padded([(2, 1), (2,), (1,)], 36))
        self.assertEqual(count_of(graph), 40)
        self.check_told(graph)

    def test_the_graph_stays_where_it_is_refused(self):
        graph = of_shape(padded([(2, 1), (2,), (1,)], 37))
        before = exact(graph)
        self.assertRaises(errors.TooGreat, doubled, graph)
        self.assertEqual(exact(graph), before)


def of_goals(graph):
    return [goals_of(node) for node in graph]


if __name__ == "__main__":
    unittest.main()
