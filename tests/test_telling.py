"""unjump.telling: points [30] and [31], with [2], [11], [17], [23], [27] and [28]."""

import unittest

from helper import (all_statements, check_fresh, count_kinds, drawn_graphs, every_graph, exact, goals_of, is_orderly,
                    lists_within, mixed_graphs, must, nested, of_shape, orderly_graphs, padded, plain_form_graph,
                    plain_form_lines, plain_run_form, plain_sound, untidy)
from unjump import errors
from unjump.doubling import doubled
from unjump.flat import rows_of
from unjump.formtexts import read_form, written_form
from unjump.graphs import graph_of
from unjump.guiding import guided
from unjump.nodes import run_graph
from unjump.telling import told

KNOT = of_shape([(2, 1), (2,), (1,)])


def heads_of(graph):
    return {goal for place, node in enumerate(graph) for goal in goals_of(node) if goal <= place and must(graph, goal, place)}


class TellingCase(unittest.TestCase):
    def check(self, graph):
        """All that is asked of what is told of a graph; tells whether anything was."""
        if not is_orderly(graph):
            with self.assertRaises(errors.JumpError) as context:
                told(graph)
            self.assertIs(type(context.exception), errors.TwoWays)
            self.assertIsNone(context.exception.row)
            return False
        self.check_form(graph, told(graph))
        return True

    def check_told(self, graph):
        self.assertTrue(self.check(graph), graph)

    def check_form(self, graph, form):
        self.assertIs(type(form), list)
        self.assertTrue(plain_sound(form), graph)
        self.assertEqual(untidy(form), [], graph)
        counts, kinds = count_kinds(form), [node[0] for node in graph]
        for kind, node in (("sum", "sum"), ("choice", "test"), ("end", "end")):
            self.assertEqual(counts[kind], kinds.count(node), graph)
        self.assertEqual(counts["round"], len(heads_of(graph)) + kinds.count("spin"), graph)
        empty = [statement for statement in all_statements(form) if statement[0] == "round" and statement[2] == []]
        self.assertEqual(len(empty), kinds.count("spin"), graph)
        self.assertEqual(exact(graph_of(rows_of(form))), exact(graph))
        self.assertEqual(exact(plain_form_graph(form)), exact(graph))
        self.assertLessEqual(len(plain_form_lines(form)), 400)
        self.assertLessEqual(lists_within(form), 90)


class ToldTest(TellingCase):
    def check_text(self, graph, text):
        with self.subTest(text=text):
            self.check_told(graph)
            self.assertEqual(exact(told(graph)), exact(read_form(text)))

    def test_written_ones(self):
        self.check_text([("end",)], "end")
        self.check_text([("spin",)], "round 0\ndone")
        self.check_text([("sum", "x", "x", "+", 1, 1), ("end",)], "x = x + 1\nend")
        self.check_text([("sum", "x", "x", "+", 1, 0)], "round 0\nx = x + 1\ndone")
        self.check_text([("test", "x", "<", 1, 0, 0)], "round 0\nif x < 1\ndone\ndone")
        self.check_text([("test", "x", "<", 1, 1, 1), ("end",)], "if x < 1\ndone\nend")
        self.check_text([("test", "x", "<", 1, 1, 2), ("end",), ("spin",)], "if x < 1\nend\nelse\nround 0\ndone\ndone")

    def test_a_choice_that_meets(self):
        graph = [("test", "x", "<", 1, 1, 2), ("sum", "x", "x", "+", 1, 3), ("sum", "x", "x", "+", 2, 3), ("end",)]
        self.check_text(graph, "if x < 1\nx = x + 1\nelse\nx = x + 2\ndone\nend")

    def test_what_a_ring_leads_to_stands_behind_its_round(self):
        graph = [("test", "x", "<", 3, 1, 2), ("sum", "x", "x", "+", 1, 0), ("sum", "y", 1, "+", 1, 3), ("end",)]
        self.check_text(graph, "round 0\nif x < 3\nx = x + 1\nelse\nleave 0\ndone\ndone\ny = 1 + 1\nend")
        graph = [("sum", "x", "x", "+", 1, 1), ("test", "x", "<", 3, 0, 2), ("sum", "y", 1, "+", 1, 3), ("end",)]
        self.check_text(graph, "round 0\nx = x + 1\nif x < 3\nelse\nleave 0\ndone\ndone\ny = 1 + 1\nend")

    def test_graphs_that_are_not_orderly(self):
        for count in range(0, 38, 6):
            for shape in ([(2, 1), (2,), (1,)], [(1, 2), (2, 3), (1, 3), ()], [(1, 2), (2, 2), (1, 1)]):
                self.assertFalse(self.check(of_shape(padded(shape, count) if count else shape)))

    def test_every_small_graph(self):
        for count in (1, 2, 3, 4):
            tells = [self.check(graph) for graph in every_graph(count)]
            self.assertTrue(any(tells))
        self.assertFalse(all(tells))

    def test_drawn_graphs(self):
        tells = [self.check(graph) for graph in mixed_graphs(95, 250)]
        self.assertGreater(tells.count(True), 60)
        self.assertGreater(tells.count(False), 60)

    def test_drawn_orderly_graphs(self):
        for graph in orderly_graphs(96, 500):
            self.check_told(graph)
        for graph in orderly_graphs(97, 60, 40, 40):
            self.check_told(graph)
        for graph in orderly_graphs(98, 800, 1, 8):
            self.check_told(graph)

    def test_graphs_made_orderly(self):
        doublings, guidings = 0, 0
        for graph in mixed_graphs(99, 250, 2, 20):
            try:
                self.check_told(doubled(graph)[0])
                doublings += not is_orderly(graph)
            except errors.TooGreat:
                pass
            try:
                self.check_told(guided(graph)[0])
                guidings += not is_orderly(graph)
            except errors.TooGreat:
                pass
        self.assertGreater(doublings, 20)
        self.assertGreater(guidings, 20)

    def test_graphs_of_forms(self):
        """Shapes that forms have: rounds within rounds, left and gone round again through many lists."""
        for kinds in (("round",), ("round", "yes"), ("part", "yes"), ("round", "choice")):
            for lists in (5, 17, 30):
                for jump in ([("again", 0)] if kinds[0] == "round" else []) + [("leave", 0), ("end",)]:
                    body = [("choice", "y", "<", 2, [jump], []), ("sum", "x", "x", "+", 1)]
                    graph = plain_form_graph(nested(lists, kinds, body))
                    if len(graph) <= 40:
                        self.check_told(graph)

    def test_many_lists_and_lines(self):
        last = 39
        shapes = [
            [(place + 1, place) for place in range(last)] + [(last, last)],
            [(place, place + 1) for place in range(last)] + [(0, last)],
            [(place + 1, 0) for place in range(last)] + [(0, 0)],
            [(place + 1, min(place + 2, last)) for place in range(last)] + [(0, 0)],
            [(place + 1, last) for place in range(last)] + [(0, last)],
            [(place + 1, last - place if last - place > place + 1 else place) for place in range(last)] + [(0, 0)],
            [(place + 1, place - place % 2) for place in range(last)] + [(0, 1)],
            [(place + 1, max(0, place - 7)) for place in range(last)] + [(0, 1)],
            [(place + 1, place + 1) for place in range(last)] + [(0, 1)],
            [(place + 1, 20 + (place * 7) % 20 if place < 19 else place // 2) for place in range(last)] + [(0, 1)],
            [(place + 1, 39 - place) if place < 20 else () for place in range(40)],
            [(2 * place + 1, 2 * place + 2) if 2 * place + 2 < 40 else (0, place // 2) for place in range(39)],
        ]
        deepest = 0
        for shape in shapes:
            graph = of_shape(shape)
            self.assertGreaterEqual(len(graph), 39)
            if self.check(graph):
                deepest = max(deepest, lists_within(told(graph)))
        self.assertGreater(deepest, 40)

    def test_a_graph_somewhat_greater(self):
        graph = of_shape([(place + 1, place) for place in range(54)] + [()])
        form = told(graph)
        self.assertEqual(untidy(form), [])
        self.assertEqual(exact(plain_form_graph(form)), exact(graph))

    def test_the_run_is_the_same(self):
        for graph in orderly_graphs(100, 120):
            form = told(graph)
            for memory in ({}, {"x": 3, "y": -1}):
                for most in (0, 1, 30):
                    self.assertEqual(exact(plain_run_form(form, memory, most)), exact(run_graph(graph, memory, most)))

    def test_it_is_written_and_read(self):
        for graph in orderly_graphs(101, 100):
            form = told(graph)
            self.assertEqual(exact(read_form(written_form(form))), exact(form))

    def test_what_is_given_stays(self):
        for graph in list(orderly_graphs(102, 60)) + list(every_graph(1)):
            check_fresh(self, told, graph)
        for graph in list(drawn_graphs(103, 10, 20, 40)) + [KNOT]:
            before = exact(graph)
            for turn in range(2):
                self.assertRaises(errors.TwoWays, told, graph)
            self.assertEqual(exact(graph), before)


if __name__ == "__main__":
    unittest.main()
