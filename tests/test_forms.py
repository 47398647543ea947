"""unjump.forms: points [22] and [23], and [2] for them."""

import unittest

from helper import Draw, all_statements, check_fresh, drawn_forms, exact, lists_of, lists_within, nested, plain_sound
from unjump.forms import form_of, lines_of, sound

SUM = ("sum", "x", "x", "+", 1)
FAR = (10000, 10001, 99999, 10 ** 30, 10 ** 299)


def choice(yes, no=()):
    return ("choice", "x", "<", 1, list(yes), list(no))


def within(statements, depth):
    """The statements deep within choices, by turns in yes and in no."""
    for turn in range(depth):
        statements = [SUM, choice(statements) if turn % 2 else choice([], statements)]
    return statements


def with_number(statements, place, number):
    """A copy of statements in which the statement at that place in the text has another number."""
    left = [place]

    def copied(inner):
        told = []
        for statement in inner:
            here, left[0] = left[0] == 0, left[0] - 1
            begin = statement[:len(statement) - len(lists_of(statement))]
            begin = (statement[0], number) if here else begin
            told.append(begin + tuple([copied(within) for within in lists_of(statement)]))
        return told

    return copied(statements)


class SoundTest(unittest.TestCase):
    def check(self, form, truth):
        with self.subTest(form=str(form)[:200]):
            self.assertIs(sound(form), truth)
            self.assertIs(plain_sound(form), truth)
            check_fresh(self, sound, form)

    def test_forms_without_numbers(self):
        self.check([], True)
        self.check([SUM], True)
        self.check([("end",), SUM, ("end",)], True)
        self.check([choice([])], True)
        self.check([choice([SUM, ("end",)], [choice([SUM])]), SUM], True)

    def test_numbers_at_their_bounds(self):
        for kind in ("round", "part"):
            for number in (0, 1, 9998, 9999):
                self.check([(kind, number, [])], True)
                self.check(within([(kind, number, [("leave", number)])], 5), True)
            for number in (-1, -2, -9999, -10000) + FAR + tuple(-far for far in FAR):
                self.check([(kind, number, [])], False)
                self.check([(kind, number, [("leave", number)])], False)
                self.check([SUM, ("round", 3, [(kind, number, [])])], False)
                self.check(within([(kind, number, [SUM])], 7), False)

    def test_a_number_at_two(self):
        for one in ("round", "part"):
            for other in ("round", "part"):
                for number in (0, 7, 9999):
                    self.check([(one, number, []), (other, number, [])], False)
                    self.check([(one, number, [(other, number, [])])], False)
                    self.check([(one, number, [SUM]), ("part", 5, within([(other, number, [SUM])], 3))], False)
                    self.check([(one, number, within([(other, number, [("leave", number)])], 4))], False)
                    self.check([choice([(one, number, [])], [(other, number, [])])], False)
                    self.check([(one, number, []), (other, number + 1 if number < 9999 else 1, [])], True)

    def test_leaves(self):
        for kind in ("round", "part"):
            self.check([(kind, 4, [("leave", 4)])], True)
            self.check([(kind, 4, within([("leave", 4)], 6))], True)
            self.check([(kind, 4, [("round", 5, [("part", 6, within([("leave", 4)], 2))])])], True)
            self.check([("leave", 4)], False)
            self.check([("leave", 4), (kind, 4, [])], False)
            self.check([(kind, 4, []), ("leave", 4)], False)
            self.check([(kind, 4, [("leave", 4)]), SUM, ("leave", 4)], False)
            self.check(within([(kind, 4, []), choice([("leave", 4)])], 3), False)
            self.check([(kind, 4, []), ("round", 5, [("leave", 4)])], False)
            self.check([("part", 5, [("leave", 4)]), (kind, 4, [])], False)
            self.check([choice([(kind, 4, [("leave", 4)])], [("leave", 4)])], False)
            self.check([("part", 5, [(kind, 4, []), ("leave", 4)])], False)
            self.check([("part", 5, [(kind, 4, []), ("leave", 5)])], True)
            self.check([(kind, 4, [("leave", 3)])], False)
            self.check([(kind, 4, [("leave", -4)])], False)
            self.check([(kind, 4, [("leave", 10 ** 200)])], False)

    def test_agains(self):
        self.check([("round", 4, [("again", 4)])], True)
        self.check([("round", 4, within([("again", 4)], 6))], True)
        self.check([("round", 4, [("round", 5, [("part", 6, within([("again", 4), ("again", 5)], 2))])])], True)
        self.check([("again", 4)], False)
        self.check([("again", 4), ("round", 4, [])], False)
        self.check([("round", 4, []), ("again", 4)], False)
        self.check([("round", 4, []), ("round", 5, [("again", 4)])], False)
        self.check([("round", 5, [("round", 4, []), ("again", 4)])], False)
        self.check([choice([("round", 4, [("again", 4)])], [("again", 4)])], False)
        self.check([("round", 4, [("again", 3)])], False)
        self.check([("round", 4, [("again", -4)])], False)

    def test_an_again_of_a_part(self):
        self.check([("part", 4, [("again", 4)])], False)
        self.check([("round", 3, [("part", 4, [("again", 4)])])], False)
        self.check([("part", 4, [("round", 3, within([("again", 4)], 3))])], False)
        self.check([("round", 3, [("part", 4, within([("again", 3), ("leave", 4), ("leave", 3)], 3))])], True)

    def test_numbers_of_leaves_and_agains_may_be_alike(self):
        self.check([("round", 4, [choice([("leave", 4)], [("again", 4)]), ("leave", 4), ("leave", 4)])], True)

    def test_far_numbers_that_agree(self):
        for number in (-1,) + FAR:
            self.check([("round", number, [("leave", number), ("again", number)])], False)

    def test_deep_forms(self):
        for kinds in (("round",), ("part",), ("choice",), ("yes",), ("round", "choice", "part")):
            form = nested(90, kinds)
            self.assertEqual(lists_within(form), 90)
            self.check(form, True)
        inner = [("again", 0), ("leave", 0), ("leave", 88)]
        self.check(nested(90, ("round",), inner), True)
        self.check(nested(90, ("round",), inner + [("leave", 89)]), False)
        self.check(nested(90, ("part",), [("leave", 0), ("leave", 88)]), True)
        self.check(nested(90, ("part",), [("again", 0)]), False)
        self.check(nested(90, ("round",), [("part", 40, [])]), False)
        self.check(nested(120, ("round", "choice", "part"), [("leave", 0)]), True)

    def test_drawn_ones(self):
        draw = Draw(71)
        truths = []
        for form in drawn_forms(72, 500):
            self.assertIs(sound(form), True, form)
            statements = all_statements(form)
            places = [place for place, statement in enumerate(statements)
                      if statement[0] in ("round", "part", "leave", "again")]
            for turn in range(6 if places else 0):
                number = draw.one_of([-1, 10000, draw.below(10000), statements[draw.one_of(places)][1]])
                other = with_number(form, draw.one_of(places), number)
                self.assertEqual(sound(other), plain_sound(other), other)
                truths.append(sound(other))
        self.assertGreater(truths.count(True), 100)
        self.assertGreater(truths.count(False), 100)


class LinesTest(unittest.TestCase):
    def test_lines_and_back(self):
        form = [choice([SUM], [("end",)]), choice([]), ("round", 3, [("part", 4, []), ("leave", 3)])]
        lines = [("choice", "x", "<", 1), SUM, ("else",), ("end",), ("done",), ("choice", "x", "<", 1), ("done",),
                 ("round", 3), ("part", 4), ("done",), ("leave", 3), ("done",)]
        self.assertEqual(exact(lines_of(form)), exact(lines))
        self.assertEqual(exact(form_of(lines)), exact(form))
        check_fresh(self, lines_of, form)
        check_fresh(self, form_of, lines)
        for form in drawn_forms(73, 200):
            self.assertEqual(exact(form_of(lines_of(form))), exact(form))
            check_fresh(self, lambda form: form_of(lines_of(form)), form)

    def test_an_else_without_lines(self):
        lines = [("choice", "x", "<", 1), ("else",), ("done",), SUM]
        self.assertEqual(exact(form_of(lines)), exact([choice([]), SUM]))


if __name__ == "__main__":
    unittest.main()
