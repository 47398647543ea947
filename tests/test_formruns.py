"""unjump.formruns: point [24] with [9] and [22], and [2] for it."""

import unittest

from helper import Draw, check_fresh, drawn_forms, every_form, exact, nested, plain_run_form
from unjump.formruns import run_form
from unjump.formtexts import read_form

LOOP = read_form("round 1\nx = x + 1\nif x < 5\nelse\nleave 1\ndone\ndone")
LOOP_DEEDS = [deed for x in range(5) for deed in
              (("sum", "x", x, "+", 1, x + 1), ("test", x + 1, "<", 5, x + 1 < 5))]
SUM = ("sum", "x", "x", "+", 1)


def given(*names):
    """The deeds of sums that give each name 1, from nought."""
    return [("sum", name, 1, "+", 0, 1) for name in names]


class RunTest(unittest.TestCase):
    def check(self, text, memory, most, deeds, word, behind):
        with self.subTest(text=text, memory=memory, most=most):
            form = read_form(text)
            self.assertEqual(exact(run_form(form, memory, most)), exact((deeds, word, behind)))
            self.assertEqual(exact(run_form(form, memory, most=most)), exact((deeds, word, behind)))
            self.assertEqual(exact(plain_run_form(form, memory, most)), exact((deeds, word, behind)))

    def check_names(self, text, names, word):
        """The text's sums, each `NAME = 1 + 0`, are done in the order of the names."""
        self.check(text, {}, 50, given(*names), word, {name: 1 for name in names})

    def test_no_statements(self):
        for most in (0, 1, 100):
            self.check("", {}, most, [], "end", {})
            self.check("end", {"a": 3}, most, [], "end", {"a": 3})
            self.check("part 1\ndone\npart 2\nleave 2\ndone", {"a": 3}, most, [], "end", {"a": 3})

    def test_sums_and_choices(self):
        for sign, a, b, made in (("+", 7, 2, 9), ("-", 7, 9, -2), ("/", -7, 2, -4), ("rest", -7, 2, 1), ("&", 12, 10, 8),
                                 ("^", -1, 5, -6)):
            self.check(f"z = x {sign} y", {"x": a, "y": b}, 9, [("sum", "z", a, sign, b, made)], "end",
                       {"x": a, "y": b, "z": made})
        for sign, a, b, truth in (("<", 1, 2, True), ("<", 2, 2, False), ("=", 2, 2, True), ("=", 3, 2, False)):
            taken = "y" if truth else "z"
            self.check(f"if x {sign} {b}\ny = 1 + 0\nelse\nz = 1 + 0\ndone\nend", {"x": a}, 9,
                       [("test", a, sign, b, truth)] + given(taken), "end", {"x": a, taken: 1})
            self.check(f"if {a} {sign} x\ndone", {"x": b}, 9, [("test", a, sign, b, truth)], "end", {"x": b})

    def test_names_that_are_not_in_the_memory(self):
        self.check("x = y + z\nif w = 0\ndone", {"a": 5}, 9,
                   [("sum", "x", 0, "+", 0, 0), ("test", 0, "=", 0, True)], "end", {"a": 5, "x": 0})

    def test_behind_the_last_statement(self):
        self.check_names("a = 1 + 0\npart 1\nb = 1 + 0\ndone\nc = 1 + 0", "abc", "end")
        self.check_names("a = 1 + 0\nend\nb = 1 + 0", "a", "end")
        self.check_names("part 1\na = 1 + 0\nround 2\nb = 1 + 0\nend\ndone\ndone\nc = 1 + 0", "ab", "end")

    def test_leaves(self):
        self.check_names("part 1\na = 1 + 0\nleave 1\nb = 1 + 0\ndone\nc = 1 + 0", "ac", "end")
        self.check_names("round 1\na = 1 + 0\nleave 1\nb = 1 + 0\ndone\nc = 1 + 0", "ac", "end")
        self.check_names("part 1\nround 2\npart 3\na = 1 + 0\nleave 1\ndone\nb = 1 + 0\ndone\nc = 1 + 0\ndone\nd = 1 + 0",
                         "ad", "end")
        self.check_names("part 1\nround 2\npart 3\na = 1 + 0\nleave 2\ndone\nb = 1 + 0\ndone\nc = 1 + 0\ndone\nd = 1 + 0",
                         "acd", "end")
        self.check_names("part 1\npart 2\npart 3\na = 1 + 0\nleave 3\ndone\nb = 1 + 0\ndone\nc = 1 + 0\ndone\nd = 1 + 0",
                         "abcd", "end")
        self.check("part 1\nif x = 0\nif x < 1\nleave 1\nelse\na = 1 + 0\ndone\nb = 1 + 0\ndone\nc = 1 + 0\ndone", {}, 9,
                   [("test", 0, "=", 0, True), ("test", 0, "<", 1, True)], "end", {})

    def test_agains(self):
        text = "round 1\nx = x + 1\nif x < 3\nagain 1\ndone\nleave 1\ndone"
        self.check(text, {}, 9, [("sum", "x", 0, "+", 1, 1), ("test", 1, "<", 3, True), ("sum", "x", 1, "+", 1, 2),
                                 ("test", 2, "<", 3, True), ("sum", "x", 2, "+", 1, 3), ("test", 3, "<", 3, False)],
                   "end", {"x": 3})
        text = "round 1\nx = x + 1\nround 2\npart 3\nif x < 2\nagain 1\nelse\nleave 1\ndone\ndone\ndone\ndone\nend"
        self.check(text, {}, 9, [("sum", "x", 0, "+", 1, 1), ("test", 1, "<", 2, True), ("sum", "x", 1, "+", 1, 2),
                                 ("test", 2, "<", 2, False)], "end", {"x": 2})
        text = "x = 2 + 2\nround 1\nround 2\nx = x - 1\nif x = 0\nleave 1\ndone\nagain 2\nend\ndone\nend\ndone\ny = 1 + 0"
        deeds = [("sum", "x", 2, "+", 2, 4)]
        for x in (4, 3, 2, 1):
            deeds += [("sum", "x", x, "-", 1, x - 1), ("test", x - 1, "=", 0, x == 1)]
        self.check(text, {}, 50, deeds + given("y"), "end", {"x": 0, "y": 1})

    def test_rounds_that_go_on_for_ever_without_deeds(self):
        for text in ("round 1\ndone", "round 1\nagain 1\ndone", "round 1\npart 2\ndone\ndone", "round 1\nround 2\ndone\ndone",
                     "round 1\nround 2\nagain 1\ndone\ndone", "round 1\nround 2\nleave 2\ndone\ndone",
                     "round 1\npart 2\nleave 2\ndone\npart 3\nleave 3\nend\ndone\ndone\nend",
                     "part 1\nround 2\nround 3\nround 4\nagain 2\ndone\nleave 1\ndone\nend\ndone\ndone"):
            for most in (0, 1, 50):
                self.check(text, {"x": 1}, most, [], "on", {"x": 1})
                self.check("part 77\nleave 77\ndone\n" + text + "\ny = 1 + 1", {"x": 1}, most, [], "on", {"x": 1})
            self.check("y = 1 + 0\n" + text, {}, 0, [], "on", {})
            self.check("y = 1 + 0\n" + text, {}, 1, given("y"), "on", {"y": 1})
            self.check("y = 1 + 0\n" + text, {}, 9, given("y"), "on", {"y": 1})

    def test_rounds_that_are_only_left(self):
        for most in (0, 1, 50):
            self.check("round 1\nround 2\nleave 1\ndone\ndone", {}, most, [], "end", {})
            self.check("round 1\nround 2\nleave 2\ndone\nleave 1\ndone\nend", {}, most, [], "end", {})
            self.check("round 1\nend\ndone", {}, most, [], "end", {})

    def test_by_nought(self):
        for sign in ("/", "rest"):
            text = f"round 1\nx = 1 + 0\npart 2\ny = x {sign} z\nleave 1\ndone\ndone"
            self.check(text, {}, 0, [], "on", {})
            self.check(text, {}, 1, given("x"), "on", {"x": 1})
            self.check(text, {}, 2, given("x"), "fault", {"x": 1})
            self.check(text, {"z": 0, "y": 7}, 3, given("x"), "fault", {"x": 1, "y": 7, "z": 0})
            made = 1 if sign == "/" else 0
            self.check(text, {"z": 1}, 2, given("x") + [("sum", "y", 1, sign, 1, made)], "end", {"x": 1, "y": made, "z": 1})

    def test_most(self):
        for most in range(13):
            x = min(5, (most + 1) // 2)
            self.assertEqual(exact(run_form(LOOP, {}, most)),
                             exact((LOOP_DEEDS[:most], "end" if most >= 10 else "on", {"x": x} if most else {})))
        self.check("if x < 1\ndone", {}, 0, [], "on", {})
        self.check("if x < 1\ndone", {}, 1, [("test", 0, "<", 1, True)], "end", {})

    def test_most_left_out(self):
        form = [("round", 0, [SUM])]
        self.assertEqual(run_form(form, {})[1:], ("on", {"x": 100}))
        self.assertEqual(exact(run_form(form, {})), exact(run_form(form, {}, 100)))
        self.assertEqual(run_form([SUM] * 100, {})[1:], ("end", {"x": 100}))
        self.assertEqual(run_form([SUM] * 101, {})[1:], ("on", {"x": 100}))

    def test_long_runs(self):
        deeds, word, memory = run_form([("round", 0, [SUM])], {}, 10000)
        self.assertEqual((len(deeds), word, memory), (10000, "on", {"x": 10000}))
        self.assertEqual(deeds[-1], ("sum", "x", 9999, "+", 1, 10000))
        self.assertEqual(run_form([SUM] * 400, {}, 10000)[1:], ("end", {"x": 400}))
        self.assertEqual(run_form([("round", 0, [SUM] * 398)], {}, 10000)[1:], ("on", {"x": 10000}))
        form = [("round", 0, [SUM, ("choice", "x", "=", 3000, [("leave", 0)], [])])]
        self.assertEqual(run_form(form, {}, 6000)[1:], ("end", {"x": 3000}))
        self.assertEqual(run_form(form, {}, 5999)[1:], ("on", {"x": 3000}))

    def test_long_ways_without_deeds(self):
        idle = [("part", number, [("leave", number)]) for number in range(1, 130)]
        deeds, word, memory = run_form([("round", 0, [SUM] + idle)], {}, 10000)
        self.assertEqual((len(deeds), word, memory), (10000, "on", {"x": 10000}))
        self.assertEqual(run_form([("round", 0, idle)], {"x": 1}, 10000), ([], "on", {"x": 1}))
        self.assertEqual(run_form(idle, {"x": 1}, 10000), ([], "end", {"x": 1}))

    def test_deep_forms(self):
        for kinds in (("round",), ("part",), ("choice",), ("yes",), ("round", "choice", "part"), ("round", "yes")):
            for inner in ([], [SUM], [("end",)], [SUM, ("end",)]):
                for memory in ({}, {"x": 5}, {"x": 100}, {"x": -100}):
                    form = nested(90, kinds, inner)
                    for most in (0, 1, 60, 300):
                        self.assertEqual(exact(run_form(form, memory, most)), exact(plain_run_form(form, memory, most)))
        inner = [SUM, ("choice", "x", "<", 4, [("again", 0)], [("leave", 0)])]
        for lists in (90, 110):
            form = nested(lists, ("round",), inner) + [("sum", "z", 1, "+", 0)]
            told = run_form(form, {}, 500)
            self.assertEqual(exact(told), exact(plain_run_form(form, {}, 500)))
            self.assertEqual(told[1], "end")
            self.assertEqual(told[0][-1], given("z")[0])

    def test_great_numbers(self):
        self.assertEqual(run_form([("round", 0, [("sum", "x", "x", "+", "x")])], {"x": -1}, 900)[2], {"x": -2 ** 900})

    def test_every_small_form(self):
        for count in range(5):
            for form in every_form(count):
                for memory, most in (({}, 0), ({}, 7), ({"x": 3}, 2)):
                    self.assertEqual(exact(run_form(form, memory, most)), exact(plain_run_form(form, memory, most)), form)

    def test_against_the_plainest_way(self):
        draw = Draw(77)
        words = []
        for form in drawn_forms(78, 1500):
            for turn in range(3):
                memory = draw.memory()
                whole = plain_run_form(form, memory, 60)
                for most in (0, 1, len(whole[0]) - 1, len(whole[0]), len(whole[0]) + 1, 60):
                    told = run_form(form, memory, max(0, most))
                    self.assertEqual(exact(told), exact(plain_run_form(form, memory, max(0, most))), (form, memory, most))
                    words.append((told[1], len(told[0]) > 3))
        self.assertEqual(len(set(words)), 6)

    def test_long_forms(self):
        draw = Draw(79)
        for turn in range(60):
            form = draw.form(150 + draw.below(100), 3, 2, 40)
            for memory in ({}, draw.memory(), draw.memory()):
                self.assertEqual(exact(run_form(form, memory, 400)), exact(plain_run_form(form, memory, 400)))

    def test_kinds(self):
        told = run_form(LOOP, {"x": 3})
        self.assertIs(type(told), tuple)
        self.assertEqual([type(thing) for thing in told], [list, str, dict])
        for deed in told[0]:
            self.assertIs(type(deed), tuple)
            self.assertIs(type(deed[-1]), int if deed[0] == "sum" else bool)

    def test_what_is_given_stays(self):
        check_fresh(self, run_form, LOOP, {"x": 1, "y": 2}, 7)
        check_fresh(self, run_form, LOOP, {}, 0)
        check_fresh(self, run_form, [], {"x": 1})
        check_fresh(self, run_form, [("round", 0, [])], {"x": 1})
        check_fresh(self, run_form, [("sum", "x", 1, "/", 0)], {"x": 1})
        for form in drawn_forms(80, 50):
            check_fresh(self, run_form, form, {"x": 1, "z": -4}, 30)


if __name__ == "__main__":
    unittest.main()
