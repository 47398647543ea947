"""unjump.tidying: points [28] and [29], with [2], [11], [22], [23] and [27]."""

import unittest

from helper import (Draw, all_statements, check_fresh, count_kinds, drawn_forms, every_form, exact, nested,
                    plain_form_graph, plain_run_form, plain_sound, untidy)
from unjump.flat import rows_of
from unjump.formruns import run_form
from unjump.formtexts import read_form, written_form
from unjump.graphs import graph_of
from unjump.tidying import tidied

SUM = ("sum", "x", "x", "+", 1)
OTHER = ("sum", "y", "y", "+", 1)


def choice(yes, no=()):
    return ("choice", "x", "<", 3, list(yes), list(no))


def fits_in(few, many):
    """Whether the few stand in the many, in their order."""
    left = iter(many)
    return all(thing in left for thing in few)


class TidyingCase(unittest.TestCase):
    def check(self, form, memories=({}, {"x": 2}, {"x": -3, "y": 2})):
        told = tidied(form)
        self.assertEqual(untidy(told), [], form)
        self.assertTrue(plain_sound(told), form)
        self.assertEqual(exact(tidied(told)), exact(told), form)
        if not untidy(form):
            self.assertEqual(exact(told), exact(form))
        self.check_nothing_put_in(form, told)
        graph = plain_form_graph(form)
        self.assertEqual(exact(plain_form_graph(told)), exact(graph), form)
        if len(graph) <= 40:
            self.assertEqual(exact(graph_of(rows_of(told))), exact(graph_of(rows_of(form))), form)
        for memory in memories:
            whole = plain_run_form(form, memory, 50)
            for most in (0, 1, len(whole[0]), 50):
                self.assertEqual(exact(run_form(told, memory, most)), exact(plain_run_form(form, memory, most)), form)
        return told

    def check_nothing_put_in(self, form, told):
        before, after = count_kinds(form), count_kinds(told)
        for kind in ("sum", "choice", "end", "leave", "again", "round"):
            self.assertLessEqual(after[kind], before[kind], (kind, form))
        self.assertLessEqual(after["round"] + after["part"], before["round"] + before["part"], form)
        done = [[statement[:5 if statement[0] == "sum" else 4] for statement in all_statements(one)
                 if statement[0] in ("sum", "choice", "end")] for one in (told, form)]
        self.assertTrue(fits_in(*done), form)

    def check_to(self, text, tidy):
        """A text of a form, and the text of the tidied form."""
        with self.subTest(text=text):
            self.assertEqual(written_form(self.check(read_form(text))), written_form(read_form(tidy)))


class TidiedTest(TidyingCase):
    def test_tidy_forms_stay(self):
        for text in ("", "x = x + 1", "end", "if x < 3\ndone", "if x < 3\nend\nelse\nend\ndone", "round 0\ndone",
                     "round 0\nx = x + 1\ndone", "round 0\nif x < 3\nleave 0\ndone\nx = x + 1\ndone\nx = 1 + 1",
                     "round 0\nif x < 3\nagain 0\ndone\nx = x + 1\nleave 0\ndone\nend",
                     "round 0\nif x < 3\nx = x + 1\nelse\nleave 0\ndone\ndone\nend",
                     "part 0\nif x < 3\nleave 0\ndone\nx = x + 1\ndone\nend",
                     "part 0\nx = 1 + 1\nround 1\nif x < 3\nleave 0\ndone\nx = x + 1\ndone\ndone",
                     "part 0\nround 1\nif x < 3\nleave 0\ndone\nif x < 4\nleave 1\ndone\nx = x + 1\ndone\ny = 1 + 1\ndone",
                     "part 0\npart 1\nif x < 3\nleave 0\ndone\nif x < 4\nleave 1\ndone\nx = x + 1\ndone\ny = 1 + 1\ndone",
                     "part 0\npart 1\nif x < 3\nleave 0\ndone\nif x < 4\nleave 1\ndone\nx = x + 1\ndone\ndone",
                     "if x < 3\nround 0\ndone\nelse\nround 1\nround 2\nif x < 3\nleave 2\ndone\ndone\ndone\ndone",
                     "round 0\nround 1\nx = x + 1\nif x < 3\nagain 0\ndone\ndone\ndone"):
            with self.subTest(text=text):
                form = read_form(text)
                self.assertEqual(untidy(form), [])
                self.assertEqual(exact(self.check(form)), exact(form))

    def test_what_stands_behind(self):
        for last in ("end", "round 5\ndone", "round 5\nx = x + 1\ndone", "if x < 3\nend\nelse\nround 5\ndone\ndone",
                     "part 5\nx = x + 1\nend\ndone", "part 5\nround 6\nif x < 2\nagain 6\nelse\nend\ndone\ndone\ndone"):
            tidy = written_form(tidied(read_form(last)))
            for more in ("y = 1 + 1", "end", "round 8\ndone", "if x < 3\ny = 1 + 1\ndone", "part 8\nleave 8\ndone",
                         "round 9\nleave 9\ndone\ny = 1 + 1"):
                self.check_to(f"{last}\n{more}", tidy)
                self.check_to(f"{last}\n{more}\n{more.replace('8', '18').replace('9', '19')}", tidy)
                self.check_to(f"if x < 1\n{last}\n{more}\ndone", written_form(tidied(read_form(f"if x < 1\n{last}\ndone"))))

    def test_a_leave_that_is_never_come_to(self):
        self.check_to("round 3\nx = x + 1\nagain 3\nleave 3\ndone\ny = 1 + 1", "round 0\nx = x + 1\ndone")
        self.check_to("part 3\nx = x + 1\nend\nleave 3\ndone\ny = 1 + 1", "x = x + 1\nend")
        self.check_to("round 1\nround 2\nround 3\nx = x + 1\nagain 3\nleave 1\ndone\nleave 2\ndone\nend\ndone\ny = 1 + 1",
                      "round 0\nx = x + 1\ndone")

    def test_an_again_that_is_never_come_to(self):
        self.check_to("round 3\nx = x + 1\nend\nagain 3\ndone", "x = x + 1\nend")
        self.check_to("round 3\nif x < 3\nx = x + 1\nleave 3\nagain 3\ndone\nleave 3\ndone", "if x < 3\nx = x + 1\ndone")

    def test_parts_without_leaves(self):
        self.check_to("part 1\ndone", "")
        self.check_to("part 1\nx = x + 1\ndone\ny = 1 + 1", "x = x + 1\ny = 1 + 1")
        self.check_to("part 1\npart 2\nx = x + 1\npart 3\nend\ndone\ndone\ndone\ny = 1 + 1", "x = x + 1\nend")
        self.check_to("part 1\nround 2\nx = x + 1\ndone\ndone", "round 0\nx = x + 1\ndone")

    def test_rounds_that_are_not_gone_round_again(self):
        self.check_to("round 1\nx = x + 1\nend\ndone", "x = x + 1\nend")
        self.check_to("round 1\nx = x + 1\nleave 1\ndone\ny = 1 + 1", "x = x + 1\ny = 1 + 1")
        self.check_to("round 7\nif x < 3\nleave 7\ndone\nx = x + 1\nleave 7\ndone\nend",
                      "part 0\nif x < 3\nleave 0\ndone\nx = x + 1\ndone\nend")
        self.check_to("round 1\nround 2\nx = x + 1\nagain 1\ndone\ndone", "round 0\nx = x + 1\ndone")
        self.check_to("round 1\nround 2\nleave 2\ndone\ndone", "round 0\ndone")
        self.check_to("round 1\nround 2\nagain 1\ndone\ndone", "round 0\ndone")

    def test_leaves_at_the_tail(self):
        self.check_to("part 1\nleave 1\ndone", "")
        self.check_to("part 1\nx = x + 1\nleave 1\ndone\ny = 1 + 1", "x = x + 1\ny = 1 + 1")
        self.check_to("part 1\nif x < 3\nleave 1\nelse\nx = x + 1\nleave 1\ndone\ndone", "if x < 3\nelse\nx = x + 1\ndone")
        self.check_to("part 1\nif x < 1\nif x < 2\nif x < 3\nleave 1\ndone\nleave 1\ndone\ndone\nleave 1\ndone",
                      "if x < 1\nif x < 2\nif x < 3\ndone\ndone\ndone")
        self.check_to("part 5\nif x < 3\nleave 5\ndone\nx = x + 1\nif x < 4\ny = 1 + 1\nelse\nleave 5\ndone\ndone",
                      "part 0\nif x < 3\nleave 0\ndone\nx = x + 1\nif x < 4\ny = 1 + 1\ndone\ndone")
        self.check_to("part 1\npart 2\nx = x + 1\nleave 1\ndone\ndone", "x = x + 1")

    def test_agains_at_the_tail(self):
        self.check_to("round 1\nagain 1\ndone", "round 0\ndone")
        self.check_to("round 1\nx = x + 1\nagain 1\ndone", "round 0\nx = x + 1\ndone")
        self.check_to("round 1\nif x < 3\nx = x + 1\nagain 1\nelse\nleave 1\ndone\ndone",
                      "round 0\nif x < 3\nx = x + 1\nelse\nleave 0\ndone\ndone")
        self.check_to("round 1\nif x < 3\nif x < 2\nagain 1\ndone\nagain 1\nelse\nif x < 4\nelse\nagain 1\ndone\ndone\nagain 1\n"
                      "done", "round 0\nif x < 3\nif x < 2\ndone\nelse\nif x < 4\ndone\ndone\ndone")

    def test_leaves_and_agains_of_others_at_the_tail_stay(self):
        for text in ("round 0\nif x < 3\nx = x + 1\nelse\nleave 0\ndone\ndone",
                     "round 0\npart 1\nif x < 3\nleave 1\ndone\nif x < 4\nx = x + 1\nagain 0\ndone\ndone\ny = y + 1\ndone",
                     "part 0\npart 1\nif x < 3\nleave 1\ndone\nif x < 4\nx = x + 1\nleave 0\ndone\ndone\ny = y + 1\ndone"):
            self.check_to(text, text)

    def test_parts_of_a_round(self):
        self.check_to("part 1\nround 2\nif x < 3\nx = x + 1\nelse\nleave 1\ndone\ndone\ndone\ny = 1 + 1",
                      "round 0\nif x < 3\nx = x + 1\nelse\nleave 0\ndone\ndone\ny = 1 + 1")
        self.check_to("part 1\npart 2\nround 3\nx = x + 1\nif x < 3\nleave 1\ndone\nif x < 4\nleave 2\ndone\nif x < 5\nleave 3\n"
                      "done\ndone\ndone\ndone\nend",
                      "round 0\nx = x + 1\nif x < 3\nleave 0\ndone\nif x < 4\nleave 0\ndone\nif x < 5\nleave 0\ndone\ndone\nend")
        self.check_to("part 1\nround 2\nx = x + 1\nif x < 3\nleave 1\ndone\nif x < 4\nleave 2\ndone\ndone\nleave 1\ndone\nend",
                      "round 0\nx = x + 1\nif x < 3\nleave 0\ndone\nif x < 4\nleave 0\ndone\ndone\nend")
        self.check_to("part 1\nround 2\nx = x + 1\nif x < 3\nleave 1\ndone\ndone\ny = 1 + 1\ndone\nend",
                      "round 0\nx = x + 1\nif x < 3\nleave 0\ndone\ndone\nend")

    def test_numbers(self):
        self.check_to("round 9999\nx = x + 1\nround 0\nif x < 3\nagain 9999\ndone\nx = x + 2\ndone\ndone",
                      "round 0\nx = x + 1\nround 1\nif x < 3\nagain 0\ndone\nx = x + 2\ndone\ndone")
        self.check_to("if x < 3\nround 1\ndone\nelse\nround 0\ndone\ndone", "if x < 3\nround 0\ndone\nelse\nround 1\ndone\ndone")

    def test_each_clause_alone(self):
        """A tidy form with just one clause broken, so that no clause is met only along with others."""
        cases = {"behind": [("end",), SUM],
                 "part without a leave": [("part", 0, [SUM])],
                 "round without again": [("round", 0, [SUM, ("end",)])],
                 "leave at the tail": [("part", 0, [choice([("leave", 0)]), SUM, ("leave", 0)])],
                 "again at the tail": [("round", 0, [choice([("leave", 0)]), ("again", 0)])],
                 "part of a round": [("part", 0, [("round", 1, [SUM, choice([("leave", 0)])])])],
                 "numbers": [("round", 1, [SUM])]}
        for fault, form in cases.items():
            with self.subTest(fault=fault):
                self.assertEqual(untidy(form), [fault])
                self.check(form)

    def test_deep_forms(self):
        for kinds in (("round",), ("part",), ("choice",), ("yes",), ("round", "choice", "part"), ("part", "yes"),
                      ("part", "round"), ("round", "yes")):
            for inner in ([], [SUM], [("end",)], [SUM, ("end",), OTHER]):
                self.check(nested(90, kinds, inner))
        for kinds, jumps in ((("round",), (("again", 0), ("leave", 0), ("again", 50), ("leave", 88))),
                             (("part",), (("leave", 0), ("leave", 40), ("leave", 88))),
                             (("part", "round", "yes"), (("leave", 0), ("again", 1), ("leave", 1), ("leave", 87)))):
            for jump in jumps:
                self.check(nested(90, kinds, [jump]))
                self.check(nested(90, kinds, [SUM, choice([jump]), OTHER]))
                self.check(nested(110, kinds, [SUM, choice([jump], [jump]), OTHER]))

    def test_drawn_forms(self):
        fewer = 0
        for form in drawn_forms(91, 1200):
            told = self.check(form, ({}, {"x": -2, "y": 3}))
            fewer += len(all_statements(told)) < len(all_statements(form))
        self.assertGreater(fewer, 500)

    def test_every_small_form(self):
        for count in range(5):
            for form in every_form(count):
                self.check(form, ({},))

    def test_small_drawn_forms(self):
        for form in drawn_forms(92, 2000, 4, 10):
            self.check(form, ({},))

    def test_long_forms(self):
        draw = Draw(93)
        for turn in range(30):
            self.check(draw.form(150 + draw.below(80), draw.below(5), 2, 30))
        self.check([SUM] * 400)
        self.check([("round", 0, [choice([("leave", 0)])] + [SUM] * 300)])

    def test_what_is_given_stays(self):
        for form in list(drawn_forms(94, 100)) + [nested(90), [], [("round", 0, [])], [("part", 0, [])]]:
            check_fresh(self, tidied, form)
            check_fresh(self, tidied, tidied(form))


if __name__ == "__main__":
    unittest.main()
