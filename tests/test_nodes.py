"""unjump.nodes: points [10] and [12], and [2] for them."""

import unittest

from helper import Draw, check_fresh, every_graph, exact, goals_of, mixed_graphs, plain_run
from unjump.graphs import laid_out
from unjump.nodes import comings, numbered, run_graph, walked, ways

SUM = ("sum", "x", "x", "+", 1, 7)
TEST = ("test", "x", "<", 5, 3, 2)


class WaysTest(unittest.TestCase):
    def test_each_kind(self):
        self.assertEqual(exact(ways(SUM)), "(7,)")
        self.assertEqual(exact(ways(TEST)), "(3, 2)")
        self.assertEqual(exact(ways(("test", 1, "=", 2, 4, 4))), "(4, 4)")
        self.assertEqual(exact(ways(("test", 1, "=", 2, 0, 39))), "(0, 39)")
        self.assertEqual(exact(ways(("end",))), "()")
        self.assertEqual(exact(ways(("spin",))), "()")


class ComingsTest(unittest.TestCase):
    def test_one_node(self):
        for node in (("end",), ("spin",)):
            self.assertEqual(exact(comings([node])), "[[]]")
        self.assertEqual(exact(comings([("sum", "x", 1, "+", 1, 0)])), "[[0]]")
        self.assertEqual(exact(comings([("test", "x", "<", 1, 0, 0)])), "[[0, 0]]")

    def test_rising_and_as_often_as_ways_go(self):
        graph = [("test", "x", "<", 1, 1, 2), ("test", "x", "<", 2, 2, 2), ("test", "x", "=", 3, 0, 3), ("end",)]
        self.assertEqual(exact(comings(graph)), "[[2], [0], [0, 1, 1], [2]]")

    def test_against_looking(self):
        for graph in list(every_graph(2)) + list(mixed_graphs(5, 60)):
            self.assertEqual(exact(comings(graph)), exact(
                [[place for place, node in enumerate(graph) for goal in goals_of(node) if goal == here]
                 for here in range(len(graph))]))

    def test_made_anew(self):
        check_fresh(self, comings, [("end",)])
        check_fresh(self, comings, [("test", "x", "<", 1, 1, 0), ("sum", "x", "x", "-", 1, 0)])


class RunGraphTest(unittest.TestCase):
    LOOP = [("sum", "x", "x", "+", 1, 1), ("test", "x", "<", 3, 0, 2), ("end",)]

    def check(self, graph, memory, most, deeds, word, behind):
        with self.subTest(graph=graph, memory=memory, most=most):
            self.assertEqual(exact(run_graph(graph, memory, most)), exact((deeds, word, behind)))
            self.assertEqual(exact(run_graph(graph, memory, most=most)), exact((deeds, word, behind)))

    def test_end_and_spin(self):
        for most in (0, 1, 100):
            self.check([("end",)], {"a": 1}, most, [], "end", {"a": 1})
            self.check([("spin",)], {"a": 1}, most, [], "on", {"a": 1})

    def test_a_loop(self):
        deeds = [("sum", "x", 0, "+", 1, 1), ("test", 1, "<", 3, True), ("sum", "x", 1, "+", 1, 2),
                 ("test", 2, "<", 3, True), ("sum", "x", 2, "+", 1, 3), ("test", 3, "<", 3, False)]
        for most in range(9):
            memory = {"x": (most + 1) // 2} if 0 < most < 6 else {"x": 3} if most else {}
            self.check(self.LOOP, {}, most, deeds[:most], "end" if most > 5 else "on", memory)

    def test_behind_a_deed(self):
        for node, word in ((("end",), "end"), (("spin",), "on")):
            for most in (1, 2):
                self.check([("sum", "y", "a", "-", "b", 1), node], {"b": 2}, most, [("sum", "y", 0, "-", 2, -2)], word,
                           {"b": 2, "y": -2})
            self.check([("sum", "y", "a", "-", "b", 1), node], {"b": 2}, 0, [], "on", {"b": 2})

    def test_yes_and_no(self):
        graph = [("test", "x", "=", 1, 1, 2), ("end",), ("spin",)]
        self.check(graph, {"x": 1}, 5, [("test", 1, "=", 1, True)], "end", {"x": 1})
        self.check(graph, {}, 5, [("test", 0, "=", 1, False)], "on", {})

    def test_by_nought(self):
        for sign in ("/", "rest"):
            graph = [("sum", "x", 1, "+", 0, 1), ("sum", "y", "x", sign, "z", 2), ("end",)]
            done = [("sum", "x", 1, "+", 0, 1)]
            self.check(graph, {}, 0, [], "on", {})
            self.check(graph, {}, 1, done, "on", {"x": 1})
            self.check(graph, {}, 2, done, "fault", {"x": 1})
            self.check(graph, {}, 3, done, "fault", {"x": 1})

    def test_most_left_out(self):
        graph = [("sum", "x", "x", "+", 1, 0)]
        self.assertEqual(run_graph(graph, {})[2], {"x": 100})
        self.assertEqual(len(run_graph(graph, {})[0]), 100)
        self.assertEqual(run_graph(graph, {}, 10000)[2], {"x": 10000})

    def test_as_the_rows_that_it_is_laid_out_as(self):
        draw = Draw(11)
        for graph in list(every_graph(2)) + list(mixed_graphs(9, 300)):
            rows = laid_out(graph)
            for most in (0, 3, 40):
                memory = draw.memory()
                self.assertEqual(exact(run_graph(graph, memory, most)), exact(plain_run(rows, memory, most)))

    def test_kinds(self):
        told = run_graph(self.LOOP, {})
        self.assertEqual([type(thing) for thing in told], [list, str, dict])

    def test_what_is_given_stays(self):
        check_fresh(self, run_graph, self.LOOP, {"x": 1, "y": 2}, 3)
        check_fresh(self, run_graph, self.LOOP, {})
        check_fresh(self, run_graph, [("end",)], {"x": 1})
        check_fresh(self, run_graph, [("spin",)], {"x": 1})
        check_fresh(self, run_graph, [("sum", "x", 1, "/", 0, 0)], {"x": 1})


class NumberingTest(unittest.TestCase):
    def test_first_the_no_then_the_yes(self):
        self.assertEqual(walked([(1, 2), (), ()], [0]), [0, 1, 2])
        self.assertEqual(walked([(2, 1), (), ()], [0]), [0, 2, 1])

    def test_what_is_not_come_to_has_no_number(self):
        self.assertEqual(walked([(2,), (0,), ()], [0]), [0, 2])
        self.assertEqual(walked([(2,), (0,), ()], [2]), [2])

    def test_several_starts(self):
        self.assertEqual(walked([(1,), ()], [0, 1]), [0, 1])
        self.assertEqual(walked([(1,), ()], [1, 0, 1]), [0, 1])

    def test_very_deep(self):
        count = 5000
        self.assertEqual(walked([(place + 1,) for place in range(count)] + [()], [0]), list(range(count + 1)))

    def test_numbered_stays(self):
        for graph in list(every_graph(2)) + list(every_graph(3)) + list(mixed_graphs(2, 200)):
            order = walked([ways(node) for node in graph], [0])
            self.assertEqual(order, list(range(len(graph))))
            self.assertEqual(exact(numbered(graph, order)), exact(graph))


if __name__ == "__main__":
    unittest.main()
