"""unjump.graphs: points [11] to [14], and [2] for them."""

import unittest

from helper import Draw, check_fresh, every_graph, exact, mixed_graphs, plain_graph, plain_run
from unjump import errors
from unjump.graphs import graph_of, laid_out
from unjump.nodes import run_graph
from unjump.rows import read, written
from unjump.running import run


def sums_then(count, last):
    return [(number, "sum", "x", "x", "+", number) for number in range(count)] + [(count,) + last]


class GraphOfTest(unittest.TestCase):
    def check(self, text, graph):
        with self.subTest(text=text):
            self.assertEqual(exact(graph_of(read(text))), exact(graph))

    def test_each_kind_of_row(self):
        self.check("7: end", [("end",)])
        self.check("7: jump 7", [("spin",)])
        self.check("7: x = y rest -3\n8: end", [("sum", "x", "y", "rest", -3, 1), ("end",)])
        self.check("7: if x = 2 jump 9\n8: end\n9: jump 9", [("test", "x", "=", 2, 1, 2), ("spin",), ("end",)])

    def test_rows_that_cannot_be_come_to(self):
        self.check("1: jump 4\n2: x = x + 1\n3: end\n4: end", [("end",)])
        self.check("1: end\n2: x = x + 1\n3: jump 3", [("end",)])
        self.check("1: x = x + 1\n2: jump 5\n3: y = y + 1\n4: jump 1\n5: end", [("sum", "x", "x", "+", 1, 1), ("end",)])

    def test_jumps_that_lead_to_jumps(self):
        self.check("1: jump 3\n2: jump 4\n3: jump 2\n4: x = 1 + 1\n5: jump 7\n6: end\n7: jump 6",
                   [("sum", "x", 1, "+", 1, 1), ("end",)])
        self.check("1: if x < 1 jump 2\n2: jump 3\n3: jump 5\n4: jump 4\n5: end", [("test", "x", "<", 1, 1, 1), ("end",)])

    def test_a_ring_of_jumps_come_to_at_two_places_is_one_spin(self):
        self.check("1: if x < 1 jump 3\n2: jump 4\n3: jump 5\n4: jump 3\n5: jump 4", [("test", "x", "<", 1, 1, 1), ("spin",)])
        self.check("1: if x < 1 jump 3\n2: jump 2\n3: jump 2", [("test", "x", "<", 1, 1, 1), ("spin",)])
        self.check("1: jump 2\n2: jump 3\n3: jump 2", [("spin",)])

    def test_two_rings_of_jumps_are_two_spins(self):
        self.check("1: if x < 1 jump 3\n2: jump 2\n3: jump 3", [("test", "x", "<", 1, 1, 2), ("spin",), ("spin",)])

    def test_two_ends_are_two_nodes(self):
        self.check("1: if x < 1 jump 3\n2: end\n3: end", [("test", "x", "<", 1, 1, 2), ("end",), ("end",)])

    def test_a_test_both_of_whose_ways_are_one(self):
        self.check("1: if x < 1 jump 2\n2: end", [("test", "x", "<", 1, 1, 1), ("end",)])
        self.check("1: if x < 1 jump 1\n2: jump 1", [("test", "x", "<", 1, 0, 0)])

    def test_loops(self):
        self.check("1: x = x + 1\n2: jump 1", [("sum", "x", "x", "+", 1, 0)])
        self.check("1: x = x + 1\n2: if x < 3 jump 1\n3: end",
                   [("sum", "x", "x", "+", 1, 1), ("test", "x", "<", 3, 0, 2), ("end",)])
        self.check("1: jump 4\n2: x = x + 1\n3: jump 4\n4: if x < 3 jump 2\n5: end",
                   [("test", "x", "<", 3, 1, 2), ("sum", "x", "x", "+", 1, 0), ("end",)])

    def test_the_numbering_goes_to_the_no_first(self):
        # The no is finished first and so has the greater number, whichever row stands first.
        self.check("1: if x < 1 jump 4\n2: a = 1 + 0\n3: jump 6\n4: b = 1 + 0\n5: jump 6\n6: end",
                   [("test", "x", "<", 1, 1, 2), ("sum", "b", 1, "+", 0, 3), ("sum", "a", 1, "+", 0, 3), ("end",)])
        self.check("1: if x < 1 jump 3\n2: if y < 2 jump 4\n3: if z < 3 jump 2\n4: end",
                   [("test", "x", "<", 1, 2, 1), ("test", "y", "<", 2, 3, 2), ("test", "z", "<", 3, 1, 3), ("end",)])

    def test_the_numbering_with_ways_that_meet_again(self):
        # Both ways of a come to d, the walk by the no; the yes has the smaller number.
        text = "1: if a = 0 jump 4\n2: b = b + 1\n3: jump 6\n4: c = c + 1\n5: jump 6\n6: if d = 0 jump 1\n7: end"
        self.check(text, [("test", "a", "=", 0, 1, 2), ("sum", "c", "c", "+", 1, 3), ("sum", "b", "b", "+", 1, 3),
                          ("test", "d", "=", 0, 0, 4), ("end",)])

    def test_the_numbering_where_a_yes_is_come_to_by_the_no(self):
        self.check("1: if a = 0 jump 3\n2: b = b + 1\n3: c = c + 1\n4: end",
                   [("test", "a", "=", 0, 2, 1), ("sum", "b", "b", "+", 1, 2), ("sum", "c", "c", "+", 1, 3), ("end",)])
        self.check("1: if a = 0 jump 4\n2: c = c + 1\n3: end\n4: b = b + 1\n5: jump 2",
                   [("test", "a", "=", 0, 1, 2), ("sum", "b", "b", "+", 1, 2), ("sum", "c", "c", "+", 1, 3), ("end",)])

    def test_a_ring_with_two_ways_in(self):
        # The walk goes first into the ring by the no.
        self.check("1: if a = 0 jump 4\n2: b = b + 1\n3: jump 4\n4: c = c + 1\n5: jump 2",
                   [("test", "a", "=", 0, 2, 1), ("sum", "b", "b", "+", 1, 2), ("sum", "c", "c", "+", 1, 1)])

    def test_forty_and_forty_one_nodes(self):
        graph = [("sum", "x", "x", "+", number, number + 1) for number in range(39)] + [("end",)]
        self.assertEqual(exact(graph_of(sums_then(39, ("end",)))), exact(graph))
        self.assertEqual(len(graph_of(sums_then(40, ("jump", 0)))), 40)
        self.assertEqual(len(graph_of(sums_then(39, ("jump", 39)))), 40)
        for rows in (sums_then(40, ("end",)), sums_then(41, ("jump", 0)), sums_then(40, ("jump", 40)),
                     sums_then(80, ("end",)), sums_then(1200, ("end",)), sums_then(1999, ("jump", 0))):
            with self.assertRaises(errors.TooGreat) as context:
                graph_of(rows)
            self.assertIs(type(context.exception), errors.TooGreat)
            self.assertIsNone(context.exception.row)

    def test_only_what_can_be_come_to_counts(self):
        rows = [(0, "jump", 1500)] + sums_then(1500, ("end",))[1:]
        self.assertEqual(graph_of(rows), [("end",)])
        tests = [(number, "test", "x", "<", number, 0) for number in range(1999)] + [(1999, "end")]
        self.assertRaises(errors.TooGreat, graph_of, tests)

    def test_two_thousand_jumps(self):
        chain = [(number, "jump", number + 1) for number in range(1999)]
        self.assertEqual(graph_of(chain + [(1999, "end")]), [("end",)])
        self.assertEqual(graph_of(chain + [(1999, "jump", 0)]), [("spin",)])
        self.assertEqual(graph_of(chain + [(1999, "jump", 1000)]), [("spin",)])
        rows = [(0, "test", "x", "<", 1, 1000)] + chain[1:] + [(1999, "jump", 1)]
        self.assertEqual(graph_of(rows), [("test", "x", "<", 1, 1, 1), ("spin",)])
        back = [(0, "jump", 1999), (1, "end")] + [(number, "jump", number - 1) for number in range(2, 2000)]
        self.assertEqual(graph_of(back), [("end",)])

    def test_against_the_plainest_way(self):
        draw = Draw(21)
        sizes, refused = [], 0
        for turn in range(3000):
            rows = draw.rows(1 + draw.below(90 if turn % 3 == 0 else 14))
            graph = plain_graph(rows)
            if len(graph) > 40:
                self.assertRaises(errors.TooGreat, graph_of, rows)
                refused += 1
            else:
                self.assertEqual(exact(graph_of(rows)), exact(graph), rows)
                sizes.append(len(graph))
        self.assertGreater(max(sizes), 30)
        self.assertGreater(refused, 10)

    def test_numbers_that_are_no_places(self):
        rows = [(5, "test", "x", "<", 1, 9998), (77, "jump", 9999), (9998, "jump", 5), (9999, "end")]
        self.assertEqual(exact(graph_of(rows)), exact([("test", "x", "<", 1, 0, 1), ("end",)]))

    def test_runs_as_the_rows(self):
        draw = Draw(23)
        words = set()
        for turn in range(1000):
            rows = draw.rows(1 + draw.below(20))
            graph = graph_of(rows)
            for most in (0, 1, 5, 50):
                memory = draw.memory()
                told = run_graph(graph, memory, most)
                self.assertEqual(exact(told), exact(run(rows, memory, most)))
                words.add(told[1])
        self.assertEqual(words, {"end", "fault", "on"})

    def test_kinds(self):
        graph = graph_of(read("1: x = x + 1\n2: if x < 3 jump 1\n3: end"))
        self.assertIs(type(graph), list)
        self.assertEqual([type(node) for node in graph], [tuple] * 3)

    def test_made_anew(self):
        for text in ("0: end", "0: jump 0", "1: x = x + 1\n2: if x < 3 jump 1\n3: end"):
            check_fresh(self, graph_of, read(text))


class LaidOutTest(unittest.TestCase):
    def check(self, graph, text):
        with self.subTest(text=text):
            self.assertEqual(exact(laid_out(graph)), exact(read(text)))
            self.assertEqual(written(laid_out(graph)), text)

    def test_each_kind_of_node(self):
        self.check([("end",)], "0: end")
        self.check([("spin",)], "0: jump 0")
        self.check([("sum", "x", "y", "^", -2, 1), ("spin",)], "0: x = y ^ -2\n1: jump 1")
        self.check([("test", "x", "=", -2, 1, 2), ("spin",), ("end",)], "0: if x = -2 jump 2\n1: jump 3\n2: jump 2\n3: end")

    def test_a_jump_just_where_the_last_way_is_not_the_next_node(self):
        self.check([("sum", "x", "x", "+", 1, 0)], "0: x = x + 1\n1: jump 0")
        self.check([("test", "x", "<", 1, 0, 0)], "0: if x < 1 jump 0\n1: jump 0")
        self.check([("test", "x", "<", 1, 1, 1), ("end",)], "0: if x < 1 jump 1\n1: end")
        self.check([("test", "x", "<", 1, 0, 1), ("end",)], "0: if x < 1 jump 0\n1: end")
        self.check([("test", "x", "<", 1, 1, 0), ("end",)], "0: if x < 1 jump 2\n1: jump 0\n2: end")
        self.check([("sum", "x", "x", "+", 1, 1), ("sum", "x", "x", "+", 2, 0)], "0: x = x + 1\n1: x = x + 2\n2: jump 0")
        self.check([("test", "x", "<", 1, 1, 2), ("sum", "a", 1, "+", 0, 3), ("sum", "b", 1, "+", 0, 3), ("end",)],
                   "0: if x < 1 jump 2\n1: jump 4\n2: a = 1 + 0\n3: jump 5\n4: b = 1 + 0\n5: end")

    def test_the_graph_again(self):
        small = [graph for count in (1, 2, 3) for graph in every_graph(count)]
        for graph in small + list(mixed_graphs(31, 600)):
            rows = laid_out(graph)
            self.assertEqual([row[0] for row in rows], list(range(len(rows))))
            self.assertEqual(exact(graph_of(rows)), exact(graph))
            jumps = [place for place, node in enumerate(graph)
                     if node[0] == "spin" or node[0] != "end" and node[-1] != place + 1]
            self.assertEqual(len([row for row in rows if row[1] == "jump"]), len(jumps))
            self.assertEqual(len(rows), len(graph) + len([place for place in jumps if graph[place][0] != "spin"]))

    def test_runs_as_the_graph(self):
        draw = Draw(33)
        for graph in mixed_graphs(35, 200):
            memory = draw.memory()
            self.assertEqual(exact(run(laid_out(graph), memory, 60)), exact(run_graph(graph, memory, 60)))

    def test_rows_laid_out_run_as_the_rows(self):
        draw = Draw(37)
        for turn in range(500):
            rows = draw.rows(1 + draw.below(20))
            memory = draw.memory()
            self.assertEqual(exact(run(laid_out(graph_of(rows)), memory, 30)), exact(plain_run(rows, memory, 30)))

    def test_made_anew(self):
        check_fresh(self, laid_out, [("end",)])
        check_fresh(self, laid_out, [("test", "x", "<", 1, 1, 2), ("sum", "a", 1, "+", 0, 2), ("end",)])


if __name__ == "__main__":
    unittest.main()
