"""unjump.flat: point [27] with [6], [11] and [22], and [2] for it."""

import unittest

from helper import (Draw, all_statements, check_fresh, drawn_forms, every_form, exact, is_orderly, nested,
                    plain_form_graph, plain_graph, plain_run, plain_run_form, plain_steps)
from unjump.flat import rows_of
from unjump.formtexts import read_form
from unjump.graphs import graph_of
from unjump.running import run

SUM = ("sum", "x", "x", "+", 1)


def led(rows, place):
    """The rows on the way from a row along jumps, that one and the last one among them, and the last one.

    Of a ring of jumps the frozenset of its rows stands for the last one.
    """
    passed = []
    while rows[place][1] == "jump":
        if place in passed:
            return passed, frozenset(passed[passed.index(place):])
        passed.append(place)
        place = rows[place][2]
    return passed + [place], place


class FlatCase(unittest.TestCase):
    def check(self, form, memories=({}, {"x": 1}, {"x": -3, "y": 2})):
        rows = rows_of(form)
        self.check_kinds(rows)
        self.check_statements(form, rows)
        self.check_ways(form, rows)
        graph = plain_graph(rows)
        self.assertEqual(exact(graph), exact(plain_form_graph(form)))
        if len(graph) <= 40:
            self.assertTrue(is_orderly(graph), form)
            self.assertEqual(exact(graph_of(rows)), exact(graph))
        for memory in memories:
            for most in (0, 1, 40):
                told = exact(run(rows, memory, most))
                self.assertEqual(told, exact(plain_run_form(form, memory, most)), form)
                self.assertEqual(told, exact(plain_run(rows, memory, most)), form)
        return rows

    def check_kinds(self, rows):
        """Rows as point [6] tells them."""
        self.assertIs(type(rows), list)
        self.assertEqual([row[0] for row in rows], list(range(len(rows))))
        sizes = {"sum": 6, "test": 6, "jump": 3, "end": 2}
        for row in rows:
            self.assertIs(type(row), tuple)
            self.assertEqual(len(row), sizes[row[1]])
            self.assertIs(type(row[0]), int)
            if row[1] in ("test", "jump"):
                self.assertIs(type(row[-1]), int)
                self.assertIn(row[-1], range(len(rows)))

    def check_statements(self, form, rows):
        statements = all_statements(form)
        asked = [("test",) + statement[1:4] if statement[0] == "choice" else statement for statement in statements
                 if statement[0] in ("sum", "choice", "end")]
        told = [row[1:5] if row[1] == "test" else row[1:] for row in rows if row[1] != "jump"]
        self.assertEqual(exact(told), exact(asked + [("end",)]))
        self.assertEqual(rows[-1][1:], ("end",))
        self.assertLessEqual(len(rows), 3 * len(statements) + 1)
        empty = [statement for statement in statements if statement[0] == "round" and statement[2] == []]
        self.assertGreaterEqual(len([row for row in rows if row[1:] == ("jump", row[0])]), len(empty))

    def check_ways(self, form, rows):
        """Where all rows lead, and that each begin of a round, and each ring of begins, is one place."""
        start, steps = plain_steps(form)
        places = [row[0] for row in rows if row[1] != "jump"]
        pairs = [(start, led(rows, 0))]
        for place, step in zip(places, steps):
            goals = {"sum": [place + 1], "test": [rows[place][-1], place + 1], "end": []}[rows[place][1]]
            self.assertEqual(len(goals), len(step))
            pairs += [(asked, led(rows, goal)) for asked, goal in zip(step, goals)]
        begins, rings = {}, {}
        for (passed, asked), (through, landed) in pairs:
            if isinstance(asked, frozenset):
                self.assertEqual(rings.setdefault(asked, landed), landed)
            else:
                self.assertEqual(landed, places[-1] if asked == "last" else places[asked])
            for begin in passed:
                begins[begin] = begins.get(begin, set(through)) & set(through)
        for asked, landed in rings.items():
            self.assertIsInstance(landed, frozenset)
            self.assertEqual([ring for ring in rings.values() if ring & landed], [landed])
        for begin in begins:
            self.assertTrue(begins[begin], (form, begin))


class RowsTest(FlatCase):
    def check_text(self, text):
        with self.subTest(text=text):
            return self.check(read_form(text))

    def test_nothing(self):
        self.assertEqual(exact(rows_of([])), exact([(0, "end")]))
        self.check([])

    def test_sums_and_ends(self):
        self.assertEqual(exact(rows_of([SUM])), exact([(0,) + SUM, (1, "end")]))
        self.assertEqual(exact(rows_of([SUM, ("end",), SUM])), exact([(0,) + SUM, (1, "end"), (2,) + SUM, (3, "end")]))
        self.check([SUM, ("end",), SUM])

    def test_choices(self):
        for yes in ([], [SUM], [SUM, ("end",)], [("choice", "y", "=", 2, [SUM], [])]):
            for no in ([], [SUM], [("end",)], [("choice", "z", "=", 2, [], [SUM])]):
                self.check([("choice", "x", "<", 1, yes, no)])
                self.check([SUM, ("choice", "x", "<", 1, yes, no), ("sum", "y", 1, "+", 1)])

    def test_rounds_without_statements(self):
        rows = self.check_text("round 7\ndone")
        self.assertEqual(exact(rows), exact([(0, "jump", 0), (1, "end")]))
        self.check_text("round 7\ndone\nround 8\ndone")
        rows = self.check_text("if x < 1\nround 7\ndone\nelse\nround 8\ndone\ndone")
        self.assertEqual(len(plain_graph(rows)), 3)
        self.check_text("round 7\nround 8\ndone\ndone")
        self.check_text("round 7\nx = x + 1\nround 8\ndone\ndone")
        rows = self.check_text("\n".join(f"round {number}\ndone" for number in range(200)))
        self.assertEqual(rows, [(number, "jump", number) for number in range(200)] + [(200, "end")])

    def test_rings_of_begins(self):
        for text in ("round 1\nround 2\nagain 1\ndone\ndone", "round 1\nround 2\nleave 2\ndone\ndone",
                     "round 1\nround 2\nround 3\nagain 2\ndone\ndone\ndone", "round 1\npart 2\ndone\ndone",
                     "round 1\nif x < 2\nround 3\nround 4\nagain 3\ndone\ndone\nelse\nround 5\npart 6\nleave 6\ndone\ndone\n"
                     "done\ndone",
                     "round 1\nround 2\nif x < 1\nleave 2\nelse\nagain 1\ndone\ndone\nround 3\nleave 3\ndone\nagain 1\ndone",
                     "part 9\nif x < 1\nleave 9\ndone\ndone\nround 1\npart 2\ndone\ndone",
                     "if x < 1\nround 1\nagain 1\ndone\nelse\nround 2\nround 3\nagain 2\ndone\ndone\ndone"):
            self.check_text(text)

    def test_several_ways_into_a_ring_come_to_one_place(self):
        rows = self.check_text("if x < 1\ny = 1 + 1\nelse\nz = 1 + 1\ndone\nround 1\nround 2\nagain 1\ndone\ndone")
        self.assertEqual([node[0] for node in plain_graph(rows)], ["test", "sum", "sum", "spin"])
        rows = self.check_text("if x < 1\nround 1\ndone\nelse\nround 2\nround 3\ndone\ndone\ndone")
        self.assertEqual([node[0] for node in plain_graph(rows)], ["test", "spin", "spin"])

    def test_leaves_and_agains(self):
        for text in ("part 1\nx = x + 1\nleave 1\ny = 1 + 1\ndone\nz = 1 + 1",
                     "part 1\nround 2\npart 3\nx = x + 1\nif x < 3\nleave 1\nelse\nagain 2\ndone\ndone\nend\ndone\ndone\nz = 1 + 1",
                     "round 1\nx = x + 1\nif x < 3\nagain 1\ndone\nleave 1\ndone",
                     "round 1\nround 2\nround 3\nif x < 3\nx = x + 1\nagain 1\ndone\nif x < 4\nx = x + 1\nagain 2\ndone\nleave 1\n"
                     "done\ndone\ndone",
                     "part 1\npart 2\npart 3\nif x < 1\nleave 1\ndone\nif x < 2\nleave 2\ndone\nleave 3\ndone\ny = 1 + 1\ndone\n"
                     "y = 2 + 2\ndone\ny = 3 + 3"):
            self.check_text(text)

    def test_what_is_never_come_to(self):
        for text in ("end\nx = x + 1\nround 1\nleave 1\ndone", "round 1\nagain 1\nx = x + 1\nleave 1\ny = 1 + 1\ndone\nz = 1 + 1",
                     "part 1\nleave 1\nround 2\npart 3\nleave 2\nx = x + 1\nagain 2\ndone\ndone\ndone",
                     "round 1\ndone\nif x < 1\nround 2\ndone\nelse\nend\ndone"):
            self.check_text(text)

    def test_at_most_three_rows_for_each_statement(self):
        form = [("choice", "x", "<", number, [], []) for number in range(100)]
        self.assertLessEqual(len(self.check(form)), 301)
        form = [("choice", "x", "<", number, [("part", number, [("leave", number)])], [SUM]) for number in range(60)]
        self.check(form)

    def test_deep_forms(self):
        for kinds in (("round",), ("part",), ("choice",), ("yes",), ("round", "choice", "part"), ("round", "yes")):
            for inner in ([], [SUM], [("end",)]):
                self.check(nested(90, kinds, inner))
        inner = [SUM, ("choice", "x", "<", 4, [("again", 0)], [("leave", 50)])]
        self.check(nested(90, ("round",), inner))
        self.check(nested(110, ("round", "yes"), [("again", 0)]))

    def test_four_hundred_lines(self):
        self.assertEqual(len(rows_of([SUM] * 400)), 401)
        draw = Draw(81)
        for turn in range(40):
            self.check(draw.form(150 + draw.below(80), 3, 2, 30))

    def test_drawn_forms(self):
        sizes = []
        for form in drawn_forms(82, 1200):
            sizes.append(len(plain_graph(self.check(form, ({}, {"x": -2, "y": 3})))))
        self.assertGreater(len([size for size in sizes if size > 12]), 100)

    def test_every_small_form(self):
        for count in range(5):
            for form in every_form(count):
                self.check(form, ({},))

    def test_small_drawn_forms(self):
        for form in drawn_forms(83, 1500, 4, 10):
            self.check(form, ({},))

    def test_what_is_given_stays(self):
        for form in list(drawn_forms(84, 60)) + [nested(90), [], [("round", 1, [])]]:
            check_fresh(self, rows_of, form)


if __name__ == "__main__":
    unittest.main()
