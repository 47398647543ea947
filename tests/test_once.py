"""unjump.once: points [33] to [35], with [2], [9] and [10]."""

import unittest

from helper import (Draw, check_fresh, drawn_graphs, every_graph, exact, goals_of, mixed_graphs, must, of_shape,
                    orderly_graphs)
from unjump.graphs import graph_of
from unjump.nodes import run_graph
from unjump.once import once, run_once
from unjump.rows import read

LOOP = graph_of(read("10: x = x + 1\n20: if x < 3 jump 10\n30: end"))


def operands(node):
    """The operands of a node, split or not."""
    return {"sum": (node[2], node[4]), "test": (node[1], node[3])}[node[0]] if node[0] in ("sum", "test") else ()


def whole(node):
    """A node whose names are not split."""
    def name(thing):
        return thing[0] if isinstance(thing, tuple) else thing

    return tuple(name(thing) for thing in node)


def named(graph, draw):
    """A graph of the same shape with other names and operands, more of them names."""
    names = ("a", "b", "c9", "b1", "zz")[:1 + draw.below(5)]

    def operand():
        return draw.one_of(names) if draw.below(4) else draw.below(5)

    told = []
    for node in graph:
        if node[0] == "sum":
            node = ("sum", draw.one_of(names), operand(), draw.one_of(["+", "-", "^", "rest"]), operand(), node[5])
        elif node[0] == "test":
            node = ("test", operand(), node[2], operand()) + node[4:]
        told.append(node)
    return told


class OnceCase(unittest.TestCase):
    def check(self, graph):
        told = once(graph)
        self.check_kinds(graph, told)
        givers = self.check_givers(told)
        above = [[one for one in range(len(graph)) if must(graph, one, other)] for other in range(len(graph))]
        for place, (joinings, node) in enumerate(told):
            for operand in operands(node):
                if isinstance(operand, tuple) and operand[1] != 0:
                    kind, giver = givers[operand]
                    self.assertIn(giver, above[place], graph)
                    self.assertTrue(kind == "joining" or giver != place, graph)
            for name, version, sources in joinings:
                self.assertGreaterEqual(len({old for start, old in sources} - {version}), 2, graph)
                for start, old in sources:
                    if start == -1:
                        self.assertEqual(old, 0)
                    elif old != 0:
                        self.assertIn(givers[(name, old)][1], above[start], graph)
        return told

    def check_kinds(self, graph, told):
        """That each node is there, and each joining's sources, as point [33] tells."""
        self.assertIs(type(told), list)
        self.assertEqual(len(told), len(graph))
        starts = [[] for node in graph]
        starts[0].append(-1)
        for place, node in enumerate(graph):
            for goal in sorted(set(goals_of(node))):
                starts[goal].append(place)
        for place, thing in enumerate(told):
            self.assertIs(type(thing), tuple)
            joinings, node = thing
            self.assertIs(type(joinings), list)
            self.assertEqual(exact(whole(node)), exact(graph[place]))
            self.check_split(node, graph[place])
            names = [joining[0] for joining in joinings]
            self.assertEqual(names, sorted(set(names)), graph)
            self.assertTrue(len(starts[place]) > 1 or joinings == [], graph)
            for joining in joinings:
                self.assertEqual([type(part) for part in joining], [str, int, list])
                self.assertEqual([type(source) for source in joining[2]], [tuple] * len(starts[place]))
                self.assertEqual([start for start, old in joining[2]], starts[place], graph)
                self.assertTrue(all(type(old) is int and type(start) is int for start, old in joining[2]))

    def check_split(self, node, old):
        """Each name is split, and nothing else."""
        pairs = list(zip(operands(node), operands(old))) + ([(node[1], old[1])] if node[0] == "sum" else [])
        for new, operand in pairs:
            if isinstance(operand, str):
                self.assertEqual([type(part) for part in new], [str, int])
                self.assertGreaterEqual(new[1], 0)
            else:
                self.assertIs(type(new), int)

    def check_givers(self, told):
        """Each version but 0 is given at just one place, and each one that is asked is given; tells where."""
        givers, asked = {}, []
        for place, (joinings, node) in enumerate(told):
            given = [((name, version), "joining") for name, version, sources in joinings]
            given += [(node[1], "sum")] if node[0] == "sum" else []
            for version, kind in given:
                self.assertNotIn(version, givers)
                self.assertGreater(version[1], 0)
                givers[version] = (kind, place)
            asked += [operand for operand in operands(node) if isinstance(operand, tuple)]
            asked += [(name, old) for name, version, sources in joinings for start, old in sources]
        for version in asked:
            self.assertTrue(version[1] == 0 or version in givers)
        return givers

    def check_runs(self, graph, memories, mosts=(0, 1, 2, 5, 40)):
        told = once(graph)
        words = []
        for memory in memories:
            deeds, word, behind = run_graph(graph, memory, 40)
            for most in mosts + (len(deeds), max(0, len(deeds) - 1), len(deeds) + 1):
                self.assertEqual(exact(run_once(told, memory, most)), exact(run_graph(graph, memory, most)[:2]), graph)
                words.append(word)
        return words


class SplitTest(OnceCase):
    def test_written_ones(self):
        self.assertEqual(exact(once([("end",)])), exact([([], ("end",))]))
        self.assertEqual(exact(once([("spin",)])), exact([([], ("spin",))]))
        self.assertEqual(exact(once(graph_of(read("0: end")))), exact([([], ("end",))]))
        graph = [("sum", "x", "y", "+", 1, 1), ("sum", "x", "x", "-", "x", 2), ("end",)]
        told = self.check(graph)
        self.assertEqual(len({told[place][1][1] for place in (0, 1)}), 2)
        self.assertEqual(told[0][1][2], ("y", 0))
        self.assertEqual(told[1][1][2], told[0][1][1])

    def test_a_loop(self):
        told = self.check(LOOP)
        (name, version, sources), = told[0][0]
        self.assertEqual((name, sources), ("x", [(-1, 0), (1, told[0][1][1][1])]))
        self.assertEqual(told[0][1][2], ("x", version))
        self.assertEqual(told[1], ([], ("test", told[0][1][1], "<", 3, 0, 2)))

    def test_a_choice_that_meets(self):
        graph = [("test", "x", "<", 1, 1, 2), ("sum", "x", "x", "+", 1, 2), ("sum", "y", "x", "+", "z", 3), ("end",)]
        told = self.check(graph)
        self.assertEqual([len(joinings) for joinings, node in told], [0, 0, 1, 0])
        (name, version, sources), = told[2][0]
        self.assertEqual((name, sources), ("x", [(0, 0), (1, told[1][1][1][1])]))
        self.assertEqual(told[2][1][2:5], (("x", version), "+", ("z", 0)))

    def test_a_test_with_one_goal_is_one_source(self):
        graph = [("sum", "x", 1, "+", 1, 1), ("test", "x", "<", 1, 2, 2), ("sum", "y", "x", "+", 0, 3), ("end",)]
        self.assertEqual([joinings for joinings, node in self.check(graph)], [[], [], [], []])
        graph = [("test", "x", "<", 1, 1, 1), ("sum", "x", "x", "+", 1, 2), ("test", "x", "<", 2, 2, 2)]
        self.check(graph)
        graph = [("test", "x", "<", 1, 0, 0)]
        self.assertEqual([joinings for joinings, node in self.check(graph)], [[]])
        graph = [("sum", "x", "x", "+", 1, 1), ("test", "x", "<", 1, 0, 0)]
        (name, version, sources), = self.check(graph)[0][0]
        self.assertEqual([start for start, old in sources], [-1, 1])

    def test_a_name_that_is_not_given_has_no_joinings(self):
        graph = of_shape([(1, 2), (3,), (3,), (0, 4), ()])
        graph = [("sum", "q", "x", "+", 1) + node[5:] if node[0] == "sum" else node for node in graph]
        for joinings, node in self.check(graph):
            self.assertNotIn("x", [joining[0] for joining in joinings])

    def test_names_are_sorted_as_texts(self):
        names = ["b", "a", "a1", "z", "a10", "a2", "aa"]
        graph = [("test", "x", "<", 1, 1, len(names) + 1)]
        graph += [("sum", name, 1, "+", 1, place + 2) for place, name in enumerate(names)]
        graph += [("sum", "x", "a", "+", "a1", 0)]
        told = self.check(graph)
        found = [joining[0] for joinings, node in told for joining in joinings]
        self.assertTrue(set(found) >= {"a", "a1"})

    def test_versions_that_come_round_unchanged(self):
        """A head that a name only passes has no joining of it."""
        text = "0: x = 5 + 1\n1: y = y + x\n2: if y < 50 jump 1\n3: z = x + y\n4: end"
        told = self.check(graph_of(read(text)))
        self.assertNotIn("x", [joining[0] for joinings, node in told for joining in joinings])

    def test_every_small_graph(self):
        draw = Draw(131)
        for count in (1, 2, 3, 4):
            for graph in every_graph(count):
                self.check(graph)
                self.check(named(graph, draw))

    def test_drawn_graphs(self):
        draw = Draw(132)
        joined = 0
        for graph in mixed_graphs(133, 250):
            told = self.check(named(graph, draw))
            joined += sum(len(joinings) for joinings, node in told) > 3
            self.check(graph)
        for graph in orderly_graphs(134, 100):
            self.check(graph)
        for graph in drawn_graphs(135, 15, 40, 40):
            self.check(named(graph, draw))
        for graph in mixed_graphs(136, 800, 2, 7):
            self.check(named(graph, draw))
        self.assertGreater(joined, 80)

    def test_what_is_given_stays(self):
        for graph in list(mixed_graphs(137, 60)) + list(every_graph(1)) + [LOOP]:
            check_fresh(self, once, graph)


class RunOnceTest(OnceCase):
    def test_written_ones(self):
        self.assertEqual(exact(run_once(once([("end",)]), {"x": 1})), exact(([], "end")))
        self.assertEqual(exact(run_once(once([("spin",)]), {"x": 1}, 0)), exact(([], "on")))
        deeds = [("sum", "x", 1, "+", 1, 2), ("test", 2, "<", 3, True), ("sum", "x", 2, "+", 1, 3), ("test", 3, "<", 3, False)]
        for most in range(4):
            self.assertEqual(exact(run_once(once(LOOP), {"x": 1}, most)), exact((deeds[:most], "on")))
        for most in (4, 5, 100):
            self.assertEqual(exact(run_once(once(LOOP), {"x": 1}, most)), exact((deeds, "end")))
            self.assertEqual(exact(run_once(once(LOOP), {"x": 1}, most=most)), exact((deeds, "end")))
        self.assertEqual(exact(run_once(once(LOOP), {"x": 1})), exact((deeds, "end")))

    def test_a_list_that_was_written(self):
        """Versions as another one might number them, and joinings of several names at one node."""
        told = [([("a", 3, [(-1, 0), (3, 8)]), ("b", 5, [(-1, 0), (3, 9)])], ("sum", ("a", 8), ("a", 3), "+", ("b", 5), 1)),
                ([], ("sum", ("b", 9), ("a", 3), "-", 0, 2)),
                ([], ("test", ("a", 8), "<", 30, 3, 4)),
                ([], ("test", ("b", 9), "=", ("b", 5), 0, 0)),
                ([], ("end",))]
        deeds, word = run_once(told, {"a": 1, "b": 1}, 100)
        sums = [deed for deed in deeds if deed[0] == "sum"]
        self.assertEqual(word, "end")
        self.assertEqual([deed[5] for deed in sums if deed[1] == "a"], [2, 3, 5, 8, 13, 21, 34])
        self.assertEqual([deed[5] for deed in sums if deed[1] == "b"], [1, 2, 3, 5, 8, 13, 21])

    def test_a_joining_that_keeps_its_own_version(self):
        told = [([], ("sum", ("x", 1), 5, "+", 0, 1)),
                ([("x", 2, [(0, 1), (1, 2), (2, 3)])], ("test", ("x", 2), "<", ("n", 0), 1, 2)),
                ([], ("sum", ("x", 3), ("x", 2), "-", 1, 1))]
        deeds, word = run_once(told, {"n": 4}, 8)
        self.assertEqual(exact(deeds), exact([("sum", "x", 5, "+", 0, 5), ("test", 5, "<", 4, False), ("sum", "x", 5, "-", 1, 4),
                                              ("test", 4, "<", 4, False), ("sum", "x", 4, "-", 1, 3), ("test", 3, "<", 4, True),
                                              ("test", 3, "<", 4, True), ("test", 3, "<", 4, True)]))
        self.assertEqual(word, "on")

    def test_most_left_out(self):
        told = once([("sum", "x", "x", "+", 1, 0)])
        deeds, word = run_once(told, {})
        self.assertEqual((len(deeds), word), (100, "on"))
        self.assertEqual(exact(run_once(told, {})), exact(run_once(told, {}, 100)))

    def test_ten_thousand_deeds(self):
        deeds, word = run_once(once([("sum", "x", "x", "+", 1, 0)]), {}, 10000)
        self.assertEqual((len(deeds), word, deeds[-1]), (10000, "on", ("sum", "x", 9999, "+", 1, 10000)))

    def test_by_nought(self):
        for sign in ("/", "rest"):
            graph = [("sum", "x", 1, "+", 0, 1), ("sum", "y", "x", sign, "z", 2), ("end",)]
            for most, deeds, word in ((0, 0, "on"), (1, 1, "on"), (2, 1, "fault"), (9, 1, "fault")):
                told = run_once(once(graph), {}, most)
                self.assertEqual(exact(told), exact(([("sum", "x", 1, "+", 0, 1)][:deeds], word)))

    def test_every_small_graph(self):
        for count in (1, 2, 3):
            for graph in every_graph(count):
                self.check_runs(graph, ({}, {"x": 2}), (0, 1, 9))

    def test_drawn_graphs(self):
        draw = Draw(138)
        words = []
        for graph in list(mixed_graphs(139, 250)) + list(orderly_graphs(140, 150)) + list(mixed_graphs(141, 600, 2, 7)):
            words += self.check_runs(graph, ({}, draw.memory(), draw.memory()))
            graph = named(graph, draw)
            words += self.check_runs(graph, ({}, {name: draw.below(7) - 3 for name in ("a", "b", "c9", "zz")}))
        for word in ("end", "fault", "on"):
            self.assertGreater(words.count(word), 100)

    def test_kinds(self):
        told = run_once(once(LOOP), {"x": 1})
        self.assertIs(type(told), tuple)
        self.assertEqual([type(thing) for thing in told], [list, str])
        self.assertTrue(all(type(deed) is tuple for deed in told[0]))

    def test_what_is_given_stays(self):
        for graph in list(mixed_graphs(142, 40)) + [LOOP, [("end",)], [("spin",)]]:
            check_fresh(self, run_once, once(graph), {"x": 1, "y": -2}, 20)
            check_fresh(self, run_once, once(graph), {}, 0)


if __name__ == "__main__":
    unittest.main()
