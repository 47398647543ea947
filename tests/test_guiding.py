"""unjump.guiding: point [21] with [2], [3], [12] and [13]."""

import unittest

from helper import (Draw, check_fresh, come_to, doors, drawn_graphs, every_graph, exact, goals_of, is_orderly, led_to,
                    mixed_graphs, of_shape, padded, plain_made, plain_worth, renumbered, sets_on_rings)
from unjump import errors
from unjump.guiding import guided
from unjump.nodes import run_graph

KNOT = of_shape([(2, 1), (2,), (1,)])
# Each node but the start is a door: two of the set of ten, four of the eight that are left, and the last four.
LADDER = of_shape([(1, 2), (3, 4), (5, 6), (7, 8), (9, 10), (6, 7), (7, 2), (8, 3), (9, 4), (10, 5), (7, 1)])


def doors_of_several(graph):
    """How many doors the sets with several have in all."""
    counts = [len(doors(graph, together)) for together in sets_on_rings(graph)]
    return sum(count for count in counts if count > 1)


def is_never_refused(graph):
    if len(graph) <= 11:
        return True
    left_out = [door for together in sets_on_rings(graph) for door in doors(graph, together)]
    return not sets_on_rings(graph, left_out) and len(graph) + 3 * doors_of_several(graph) <= 40


def names_of(graph):
    return {thing for node in graph for thing in node if isinstance(thing, str)}


class GuidingCase(unittest.TestCase):
    def check(self, graph):
        """All that point [21] asks of what is told; tells whether anything was."""
        try:
            told = guided(graph)
        except errors.TooGreat as refusal:
            self.assertIs(type(refusal), errors.TooGreat)
            self.assertIsNone(refusal.row)
            self.assertFalse(is_never_refused(graph), graph)
            self.assertFalse(is_orderly(graph), graph)
            return False
        self.assertIs(type(told), tuple)
        self.assertEqual([type(thing) for thing in told], [list, list, str])
        new, origins, name = told
        self.check_name(graph, name)
        self.assertEqual([type(origin) for origin in origins], [int] * len(new))
        self.assertLessEqual(len(new), 40)
        self.assertEqual(exact(renumbered(new)), exact(new))
        self.assertTrue(is_orderly(new), graph)
        self.assertEqual(sorted(origin for origin in origins if origin != -1), list(range(len(graph))))
        self.assertLessEqual(origins.count(-1), 3 * len(graph))
        self.check_guides(new, origins, name)
        self.check_ways(graph, new, origins, name)
        if is_orderly(graph):
            self.assertEqual(exact(told), exact((graph, list(range(len(graph))), name)))
        else:
            self.assertGreater(len(new), len(graph))
        return True

    def check_told(self, graph):
        self.assertTrue(self.check(graph), graph)

    def check_name(self, graph, name):
        self.assertEqual(name[:3], "way")
        number = int(name[3:])
        self.assertEqual(name, f"way{number}")
        self.assertNotIn(name, names_of(graph))
        for smaller in range(number):
            self.assertIn(f"way{smaller}", names_of(graph))

    def check_guides(self, new, origins, name):
        guides = [place for place, origin in enumerate(origins) if origin == -1]
        for place in guides:
            node = new[place]
            if node[0] == "sum":
                number, plain = node[2], ("sum", name, node[2], "+", 0, node[5])
            else:
                number, plain = node[3], ("test", name, "=", node[3], node[4], node[5])
            self.assertEqual(exact(node), exact(plain))
            self.assertIs(type(number), int)
            self.assertTrue(0 <= number <= 99)
            # No ring is of guides alone.
            copies = [copy for copy in range(len(new)) if copy not in guides]
            for goal in goals_of(node):
                self.assertNotIn(place, come_to(new, goal, copies))

    def check_ways(self, graph, new, origins, name):
        self.assertEqual(self.meant(new, origins, 0), 0)
        for place, origin in enumerate(origins):
            if origin != -1:
                node, old = new[place], graph[origin]
                self.assertEqual(exact(node[:len(node) - len(goals_of(node))]), exact(old[:len(old) - len(goals_of(old))]))
                self.assertEqual([self.meant(new, origins, goal) for goal in goals_of(node)], list(goals_of(old)))

    def meant(self, new, origins, place):
        """The origin of the copy to which one comes from a place, whatever the memory."""
        worth = None
        for turn in range(len(new) + 1):
            if origins[place] != -1:
                return origins[place]
            node = new[place]
            if node[0] == "sum":
                worth, place = node[2], node[5]
            else:
                self.assertIsNotNone(worth, "a test is the first guide")
                place = node[4] if worth == node[3] else node[5]
        self.fail("guides lead nowhere")


class GuidedTest(GuidingCase):
    def test_a_written_one(self):
        new, origins, name = guided(KNOT)
        self.check_told(KNOT)
        self.assertEqual(name, "way0")
        self.assertLessEqual(origins.count(-1), 6)

    def test_orderly_graphs_stay(self):
        for graph in ([("end",)], [("spin",)], [("sum", "x", "x", "+", 1, 0)], [("test", "x", "<", 1, 0, 0)]):
            self.assertEqual(exact(guided(graph)), exact((graph, [0], "way0")))
        for graph in drawn_graphs(81, 150, 1, 40, goals="up"):
            self.assertTrue(is_orderly(graph))
            self.check_told(graph)
        for graph in drawn_graphs(82, 10, 40, 40, goals="up"):
            self.assertEqual(exact(guided(graph)), exact((graph, list(range(40)), "way0")))

    def test_every_small_graph(self):
        for count in (1, 2, 3):
            for graph in every_graph(count):
                self.check_told(graph)

    def test_every_graph_of_four_nodes_that_is_not_orderly(self):
        graphs = [graph for graph in every_graph(4) if not is_orderly(graph)]
        self.assertEqual(len(graphs), 2288)
        for graph in graphs:
            self.check_told(graph)

    def test_drawn_graphs(self):
        seen = set()
        for graph in mixed_graphs(83, 800):
            seen.add((is_orderly(graph), self.check(graph)))
        self.assertEqual(seen, {(True, True), (False, True), (False, False)})

    def test_made_anew(self):
        for graph in (KNOT, LADDER, [("end",)], [("sum", "x", "x", "+", 1, 0)]):
            check_fresh(self, guided, graph)


class NameTest(GuidingCase):
    def check_first(self, ahead, name):
        for knot in ([(2, 1), (2,), (1,)], [(1, 2), (2,), ()]):
            graph = of_shape(padded(knot, len(ahead)))
            for place, node in enumerate(ahead):
                graph[place] = node + (place + 1,) if node[0] == "sum" else node + (place + 1, place + 1)
            self.assertEqual(renumbered(graph), graph)
            self.assertEqual(guided(graph)[2], name)
            self.check_told(graph)

    def test_where_way0_stands_in_a_node(self):
        for node in (("sum", "way0", 1, "+", 1), ("sum", "x", "way0", "+", 1), ("sum", "x", 1, "+", "way0"),
                     ("test", "way0", "<", 1), ("test", 1, "=", "way0")):
            self.check_first([node], "way1")

    def test_where_more_of_them_stand(self):
        self.check_first([], "way0")
        self.check_first([("sum", "way1", "way2", "+", 1)], "way0")
        self.check_first([("sum", "way1", "way0", "+", 1)], "way2")
        self.check_first([("sum", "way1", "way0", "+", "way3"), ("test", "way00", "<", "way")], "way2")
        self.check_first([("sum", "way1", "way0", "+", "way3"), ("test", "way2", "<", "way4")], "way5")
        self.check_first([("sum", f"way{3 * k}", f"way{3 * k + 1}", "+", f"way{3 * k + 2}") for k in range(5)], "way15")

    def test_in_a_node_of_the_ring(self):
        graph = [("test", "x", "=", 0, 2, 1), ("sum", "way0", "x", "+", 1, 2), ("sum", "x", "way1", "+", 2, 1)]
        self.assertEqual(guided(graph)[2], "way2")
        self.check_told(graph)


class NeverRefusedTest(GuidingCase):
    def test_at_most_eleven_nodes(self):
        count, most = 0, 0
        for tests in (10, 9, 7):
            for graph in drawn_graphs(91 + tests, 700, 9, 11, tests=tests, ends=10 - tests, deep=1 + tests % 3):
                self.check_told(graph)
                count += not is_orderly(graph)
                most = max(most, len(guided(graph)[0]))
        self.assertGreater(count, 1200)
        self.assertGreater(most, 25)

    def test_eleven_nodes_of_which_ten_are_doors(self):
        self.assertEqual(len(LADDER), 11)
        self.check_told(LADDER)

    def test_one_ring_with_two_doors_in_thirty_four_nodes(self):
        for knot in ([(2, 1), (2,), (1,)], [(1, 3), (2,), (3,), (4, 1), ()]):
            graph = of_shape(padded(knot, 34 - len(knot)))
            self.assertEqual(len(graph) + 3 * doors_of_several(graph), 40)
            self.check_told(graph)

    def test_one_ring_with_many_doors(self):
        for count, size in ((8, 8), (7, 8), (7, 7), (5, 9), (3, 20), (4, 12), (2, 30)):
            tests = count - 1
            shape = led_to([tests + door for door in range(count)], 0)
            shape += [(tests + (place + 1) % size,) for place in range(size)]
            graph = of_shape(padded(shape, 40 - 3 * count - len(shape)))
            self.assertEqual(len(graph) + 3 * doors_of_several(graph), 40)
            self.check_told(graph)

    def test_several_sets(self):
        draw = Draw(93)
        seen = []
        for turn in range(600):
            shape = draw.sets_in_a_row(1 + draw.below(4))
            graph = of_shape(shape)
            left = 40 - len(graph) - 3 * doors_of_several(graph)
            if left >= 0:
                graph = of_shape(padded(shape, left))
                if is_never_refused(graph):
                    self.assertEqual(len(graph) + 3 * doors_of_several(graph), 40)
                    seen.append(len([1 for together in sets_on_rings(graph) if len(doors(graph, together)) > 1]))
                self.check(graph)
        self.assertGreater(len(seen), 150)
        self.assertGreaterEqual(max(seen), 3)

    def test_rings_within_rings_with_several_doors(self):
        shapes = (
            [(1,), (2, 6), (3, 5), (4, 5), (2, 5), (1, 3), (4, 7), ()],
            [(1, 4), (2, 3), (3, 4), (2, 4), (5, 6), (6, 1), (5, 7), ()],
            [(1, 2), (3, 4), (4, 3), (4, 1), (3, 2)])
        for shape in shapes:
            graph = of_shape(shape)
            self.assertFalse(is_orderly(graph))
            self.check_told(graph)


class RefusedTest(GuidingCase):
    def test_forty_nodes_that_are_not_orderly(self):
        graph = of_shape(padded([(2, 1), (2,), (1,)], 37))
        self.assertEqual(len(graph), 40)
        self.assertFalse(self.check(graph))
        count = 0
        for graph in mixed_graphs(97, 100, 40, 40):
            if not is_orderly(graph):
                self.assertFalse(self.check(graph))
                count += 1
        self.assertGreater(count, 40)

    def test_the_graph_stays_where_it_is_refused(self):
        graph = of_shape(padded([(2, 1), (2,), (1,)], 37))
        before = exact(graph)
        self.assertRaises(errors.TooGreat, guided, graph)
        self.assertEqual(exact(graph), before)


class RunsTest(GuidingCase):
    def run_marked(self, graph, origins, memory, most):
        """A run of a guided graph until so many deeds of copies are done, each deed with whether a guide did it."""
        memory, deeds, place = dict(memory), [], 0
        while graph[place][0] in ("sum", "test"):
            node, guide = graph[place], origins[place] == -1
            if not guide and len([1 for deed, other in deeds if not other]) == most:
                return deeds, "on", memory
            one, sign, other = node[2:5] if node[0] == "sum" else node[1:4]
            a, b = plain_worth(one, memory), plain_worth(other, memory)
            if node[0] == "test":
                truth = a < b if sign == "<" else a == b
                deeds.append((("test", a, sign, b, truth), guide))
                place = node[4] if truth else node[5]
            else:
                made = plain_made(sign, a, b)
                if made is None:
                    return deeds, "fault", memory
                deeds.append((("sum", node[1], a, sign, b, made), guide))
                memory[node[1]] = made
                place = node[5]
        return deeds, "end" if graph[place][0] == "end" else "on", memory

    def check_runs(self, graph, memory, most):
        new, origins, name = guided(graph)
        guides = origins.count(-1)
        deeds, word, behind = self.run_marked(new, origins, memory, most)
        old_deeds, old_word, old_behind = run_graph(graph, memory, most)
        self.assertEqual(exact([deed for deed, guide in deeds if not guide]), exact(old_deeds))
        self.assertEqual(word, old_word)
        behind, old_behind = ({key: value for key, value in told.items() if key != name} for told in (behind, old_behind))
        self.assertEqual(exact(behind), exact(old_behind))
        marks = "".join("g" if guide else "o" for deed, guide in deeds)
        self.assertLessEqual(max(len(part) for part in marks.split("o")), guides)
        self.assertEqual(exact(run_graph(new, memory, len(deeds))[0]), exact([deed for deed, guide in deeds]))
        return word, "g" in marks

    def test_the_same_runs_but_for_the_name(self):
        draw = Draw(99)
        seen = set()
        for graph in mixed_graphs(101, 300, 3, 14):
            if not is_orderly(graph) and self.check(graph):
                for most in (0, 1, 7, 60):
                    memory = draw.memory()
                    if draw.below(2):
                        memory["way0"] = draw.below(4)
                    seen.add(self.check_runs(graph, memory, most))
        self.assertEqual(seen, {(word, guide) for word in ("end", "fault", "on") for guide in (True, False)})

    def test_both_ways_into_a_ring(self):
        for memory in ({}, {"x": 1}, {"x": 0, "way0": 1}, {"x": 1, "way0": 0}):
            for most in range(8):
                self.check_runs(of_shape([(2, 1), (2,), (1, 3), ()]), memory, most)


if __name__ == "__main__":
    unittest.main()
