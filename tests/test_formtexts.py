"""unjump.formtexts: points [25] and [26], with [5], [7] and [22], and [2] for them."""

import unittest

from helper import Draw, check_fresh, drawn_forms, every_form, exact, lists_within, nested, plain_form_lines
from unjump import errors
from unjump.formtexts import read_form, written_form

KEPT = ("if", "jump", "end", "rest", "round", "part", "leave", "again", "else", "done")
SUM_SIGNS = ("+", "-", "/", "rest", "&", "^")
EIGHTEEN = 10 ** 18 - 1
SUM = ("sum", "x", "x", "+", 1)
# One line of each kind, and, where it opens or needs something, what stands ahead of it and behind it.
KINDS = (("x = y + 3", "", ""), ("if x < -7", "", "\ndone"), ("round 8", "", "\ndone"), ("part 8", "", "\ndone"),
         ("leave 5", "", ""), ("again 5", "", ""), ("end", "", ""), ("else", "if x = 1\n", "\ndone"),
         ("done", "part 7\n", ""))


def placed(line, ahead="", behind=""):
    """A line within a round 5, between others."""
    return f"x = 1 + 1\nround 5\n{ahead}{line}{behind}\ny = 2 + 2\ndone\nend"


class ReadingTest(unittest.TestCase):
    def check(self, text, form):
        with self.subTest(text=text[:80]):
            self.assertEqual(exact(read_form(text)), exact(form))

    def test_nothing(self):
        for text in ("", "\n", "\n\n\n", " ", "   \n \n\n  "):
            self.check(text, [])

    def test_each_kind(self):
        self.check("x = y + 3", [("sum", "x", "y", "+", 3)])
        self.check("if x < -7\nend\nelse\nx = x + 1\ndone", [("choice", "x", "<", -7, [("end",)], [SUM])])
        self.check("round 3\nagain 3\nleave 3\ndone", [("round", 3, [("again", 3), ("leave", 3)])])
        self.check("part 3\nleave 3\ndone", [("part", 3, [("leave", 3)])])
        self.check("end", [("end",)])
        for line, ahead, behind in KINDS:
            self.assertEqual(len(read_form(placed(line, ahead, behind))), 3)

    def test_each_sign(self):
        for sign in SUM_SIGNS:
            self.check(f"a = b {sign} c", [("sum", "a", "b", sign, "c")])
            self.check(f"a = -1 {sign} 0", [("sum", "a", -1, sign, 0)])
        for sign in ("<", "="):
            self.check(f"if b {sign} c\ndone", [("choice", "b", sign, "c", [], [])])
            self.check(f"if -1 {sign} 0\ndone", [("choice", -1, sign, 0, [], [])])

    def test_else(self):
        self.check("if x = 1\ndone", [("choice", "x", "=", 1, [], [])])
        self.check("if x = 1\nelse\ndone", [("choice", "x", "=", 1, [], [])])
        self.check("if x = 1\nx = x + 1\nelse\ndone", [("choice", "x", "=", 1, [SUM], [])])
        self.check("if x = 1\nelse\nx = x + 1\ndone", [("choice", "x", "=", 1, [], [SUM])])
        self.check("if x = 1\nif x = 2\nelse\nend\ndone\nelse\nx = x + 1\ndone",
                   [("choice", "x", "=", 1, [("choice", "x", "=", 2, [], [("end",)])], [SUM])])
        self.check("if x = 1\nelse\nif x = 2\nend\nelse\nx = x + 1\ndone\ndone",
                   [("choice", "x", "=", 1, [], [("choice", "x", "=", 2, [("end",)], [SUM])])])

    def test_names_operands_and_numbers_at_their_bounds(self):
        for name in tuple("abcdefghijklmnopqrstuvwxyz") + ("a0", "abcdefgh", "z9999999", "ends", "iff", "rest1", "doner"):
            self.check(f"{name} = {name} + {name}", [("sum", name, name, "+", name)])
            self.check(f"if {name} < {name}\ndone", [("choice", name, "<", name, [], [])])
        for number in (0, 1, 9, 10, EIGHTEEN, 10 ** 17, -1, -10, -EIGHTEEN):
            self.check(f"x = {number} - {number}", [("sum", "x", number, "-", number)])
            self.check(f"if {number} = {number}\ndone", [("choice", number, "=", number, [], [])])
        for number in (0, 1, 9, 10, 99, 100, 999, 1000, 9999):
            self.check(f"round {number}\nagain {number}\nleave {number}\ndone",
                       [("round", number, [("again", number), ("leave", number)])])
            self.check(f"part {number}\nleave {number}\ndone", [("part", number, [("leave", number)])])

    def test_blanks_ahead_and_lines_without_words(self):
        for ahead in ("", " ", "  ", " " * 50):
            for line, before, behind in KINDS:
                text = placed(line, before, behind)
                spread = "\n".join(ahead + one for one in text.split("\n"))
                self.check(spread, read_form(text))
                self.check("\n \n" + spread.replace("\n", "\n\n   \n") + "\n  \n\n ", read_form(text))

    def test_four_hundred_lines(self):
        form = [SUM] * 400
        text = "\n".join(["x = x + 1"] * 400)
        self.check(text, form)
        self.check(text.replace("\n", "\n\n  \n") + "\n \n\n", form)
        lines = ["round 1"] + ["x = x + 1"] * 398 + ["done"]
        self.check("\n".join(lines), [("round", 1, [SUM] * 398)])

    def test_ninety_lists(self):
        for kinds in (("round",), ("part",), ("yes",), ("choice",), ("round", "choice", "part")):
            form = nested(90, kinds, [SUM])
            self.assertEqual(lists_within(form), 90)
            self.check("\n".join(plain_form_lines(form)), form)

    def test_kinds(self):
        left = list(read_form("x = 1 + y\nif x < 3\nround 4\nleave 4\ndone\nelse\nend\ndone"))
        while left:
            statement = left.pop()
            self.assertIs(type(statement), tuple)
            for thing in statement:
                self.assertIn(type(thing), (str, int, list))
                left += thing if type(thing) is list else []

    def test_made_anew(self):
        for text in ("", "end", "if x < 3\nround 4\nleave 4\ndone\nelse\nend\ndone", "part 1\ndone\npart 2\ndone"):
            check_fresh(self, read_form, text)


class RefusalTest(unittest.TestCase):
    def check(self, text, kind):
        with self.subTest(text=text[:80]):
            with self.assertRaises(errors.JumpError) as context:
                read_form(text)
            self.assertIs(type(context.exception), kind)
            self.assertIsNone(context.exception.row)

    def check_no_line(self, line):
        self.check(line, errors.NoForm)
        self.check(f"x = 1 + 1\n{line}\nend", errors.NoForm)
        self.check(placed(line), errors.NoForm)
        self.check(placed(line, "", "\ndone"), errors.NoForm)
        self.check(placed(line, "if x = 1\n", "\ndone"), errors.NoForm)
        self.check("  " + placed(line, "", "\nelse\ndone"), errors.NoForm)

    def check_no_kind(self, line, ahead, behind):
        """A line that would have its place if it were one."""
        self.check(placed(line, ahead, behind), errors.NoForm)
        self.check_no_line(line)

    def test_blanks(self):
        for line, ahead, behind in KINDS:
            for other in (f"{line} ", f"{line}  ", f"{line}\t", f"\t{line}", f" \t{line}", f"{line} \t"):
                self.check_no_kind(other, ahead, behind)
            for place in [place for place, sign in enumerate(line) if sign == " "]:
                self.check_no_kind(f"{line[:place]} {line[place:]}", ahead, behind)
                self.check_no_kind(f"{line[:place]}\t{line[place + 1:]}", ahead, behind)
                self.check_no_kind(f"{line[:place]}{line[place + 1:]}", ahead, behind)

    def test_lines_of_tabs(self):
        for line in ("\t", " \t", "\t ", "  \t  "):
            self.check_no_line(line)

    def test_words_too_many_or_too_few(self):
        for line, ahead, behind in KINDS:
            words = line.split(" ")
            for more in ("x", "1", "end", "+", "=", ":", "jump", line):
                self.check_no_kind(f"{line} {more}", ahead, behind)
                self.check_no_kind(f"{more} {line}", ahead, behind)
            for place in range(len(words) if len(words) > 1 else 0):
                self.check_no_kind(" ".join(words[:place] + words[place + 1:]), ahead, behind)

    def test_great_letters(self):
        for line, ahead, behind in KINDS:
            for place in [place for place, sign in enumerate(line) if sign.isalpha()]:
                self.check_no_kind(line[:place] + line[place].upper() + line[place + 1:], ahead, behind)

    def test_kept_words_as_names(self):
        for word in KEPT:
            self.check_no_line(f"{word} = 1 + 2")
            self.check_no_line(f"x = {word} + 2")
            self.check_no_line(f"x = 1 + {word}")
            self.check_no_line(f"if {word} < 2")
            self.check_no_line(f"if 1 = {word}")
            self.check_no_line(f"round {word}")
        for word in ("jump", "rest", "if"):
            self.check_no_line(word)
            self.check_no_line(f"{word} 5")

    def test_words_that_are_no_names(self):
        for word in ("abcdefghi", "1a", "a_b", "a-b", "", "x.", "-x", "+x", "a" * 50, "(x)", "x:", "~"):
            self.check_no_line(f"{word} = 1 + 2")
            self.check_no_line(f"x = {word} + 2")
            self.check_no_line(f"x = 1 + {word}")
            self.check_no_line(f"if {word} < 2")
            self.check_no_line(f"if 1 = {word}")

    def test_words_that_are_no_operands(self):
        for word in ("00", "01", "-0", "-00", "-01", "+1", "--1", "-", "1_0", "0x1", "1.0", "1e3", str(EIGHTEEN + 1),
                     str(-EIGHTEEN - 1), "0" * 18, "1" * 200, "1,0"):
            self.check_no_line(f"x = {word} + 2")
            self.check_no_line(f"x = 1 + {word}")
            self.check_no_line(f"if {word} < 2")
            self.check_no_line(f"if 1 = {word}")
            self.check_no_line(f"{word} = 1 + 2")

    def test_words_that_are_no_numbers(self):
        for kind in ("round", "part", "leave", "again"):
            for word in ("-1", "-0", "00", "05", "005", "10000", "12345", "x", "+5", "5.", "1_0", "", "5:", "0x5"):
                self.check(f"round 5\n{kind} {word}\ndone", errors.NoForm)
                self.check(f"round 5\n{kind} {word}\ndone\ndone", errors.NoForm)

    def test_signs_that_are_none(self):
        for sign in ("*", "<", "=", "==", "//", "|", "r", "Rest", "%", "", "&&", "-+", "and"):
            self.check_no_line(f"x = 1 {sign} 2")
        for sign in ("+", ">", "<=", "==", "!=", "", "-", "rest", "&", "is"):
            self.check_no_line(f"if 1 {sign} 2")
        for sign in ("==", "<", ":=", "+", ""):
            self.check_no_line(f"x {sign} 1 + 2")

    def test_rows_are_no_lines(self):
        for line in ("1: x = y + 3", "1: end", "jump 5", "if x < 3 jump 5", "5: jump 5", "if x < 3 leave 5", "5:"):
            self.check_no_line(line)

    def test_else_without_a_place(self):
        for text in ("else", "else\ndone", "x = 1 + 1\nelse", "if x = 1\ndone\nelse", "if x = 1\nelse\nelse\ndone",
                     "round 1\nelse\ndone", "part 1\nelse\ndone", "if x = 1\nround 1\nelse\ndone\ndone",
                     "if x = 1\nround 1\nelse\ndone", "if x = 1\nelse\npart 1\nelse\ndone\ndone",
                     "if x = 1\nif x = 2\nelse\nelse\ndone\ndone", "if x = 1\nelse\nif x = 2\ndone\nelse\ndone"):
            self.check(text, errors.NoForm)

    def test_done_without_a_place(self):
        for text in ("done", "x = 1 + 1\ndone", "if x = 1\ndone\ndone", "round 1\ndone\ndone", "part 1\ndone\ndone\nend",
                     "if x = 1\nelse\ndone\ndone", "done\nround 1", "end\ndone"):
            self.check(text, errors.NoForm)

    def test_lists_still_open(self):
        for text in ("if x = 1", "if x = 1\nelse", "round 1", "part 1", "round 1\npart 2\ndone", "if x = 1\nif x = 2\nelse\ndone",
                     "x = 1 + 1\nround 1\nx = x + 1", "part 1\nleave 1"):
            self.check(text, errors.NoForm)
        for lists in (2, 30, 90):
            lines = plain_form_lines(nested(lists))
            for lacking in (1, lists - 1):
                self.check("\n".join(lines[:len(lines) - lacking]), errors.NoForm)

    def test_forms_that_are_not_sound(self):
        for text in ("leave 1", "again 1", "round 1\ndone\nround 1\ndone", "round 1\npart 1\ndone\ndone",
                     "part 1\nagain 1\ndone", "round 1\ndone\nleave 1", "leave 1\npart 1\ndone", "round 1\nleave 2\ndone",
                     "part 1\ndone\nif x = 1\npart 1\ndone\ndone", "round 2\npart 1\nagain 1\ndone\ndone",
                     "if x = 1\nround 1\ndone\nelse\nagain 1\ndone"):
            self.check(text, errors.NoForm)

    def test_more_than_four_hundred_lines(self):
        for line in ("x = x + 1", "end", "no line", "else", "done", "round 1", "\t", "leave 1", "10: end"):
            self.check("\n".join([line] * 401), errors.TooGreat)
            self.check(" " + "\n\n  \n ".join([line] * 401), errors.TooGreat)
            self.check("\n".join([line] * 2000), errors.TooGreat)
        self.check("\n".join(["x = x + 1"] * 399 + ["else"]), errors.NoForm)
        self.check("\n".join(["x = x + 1"] * 399 + ["\t"]), errors.NoForm)
        self.check("\n".join(["x = x + 1"] * 399 + ["\t"] + [" "] * 50), errors.NoForm)

    def test_ninety_lists_and_one_more(self):
        for opener in ("if x < 3", "round 900", "part 900"):
            for kinds in (("round",), ("part",), ("yes",), ("choice",), ("part", "choice", "round")):
                lines = plain_form_lines(nested(90, kinds, [("end",)]))
                place = [line.strip() for line in lines].index("end")
                full = "\n".join(lines[:place])
                closing = "\n".join(lines[place + 1:])
                read_form(f"{full}\nend\n{closing}")
                self.check(f"{full}\n{opener}\ndone\n{closing}", errors.TooGreat)
                self.check(f"{full}\n{opener}", errors.TooGreat)
                self.check(f"{full}\nend\n{opener}", errors.TooGreat)
                read_form(f"{full}\ndone\n{opener}\n{closing}")
        full = "\n".join(["if x < 3\nelse"] * 89)
        read_form(full + "\ndone" * 89)
        self.check(full + "\nif x < 3" + "\ndone" * 90, errors.TooGreat)
        self.check(full + "\nelse" + "\ndone" * 90, errors.NoForm)

    def test_which_is_the_first_that_is_due(self):
        full = "\n".join(f"round {number}" for number in range(89))
        deep = full + "\nround 89"
        # What stands ahead goes first, be it that a line is none or that ninety lists are open.
        self.check("no line\n" + deep, errors.NoForm)
        self.check("done\n" + deep, errors.NoForm)
        self.check(full + "\nelse\nround 89", errors.NoForm)
        self.check(deep + "\nno line", errors.TooGreat)
        self.check(deep + "\nelse", errors.TooGreat)
        self.check(full + "\nround 89 ", errors.NoForm)
        self.check(full + "\nif x < 3 jump 5", errors.NoForm)
        self.check(full + "\nround 10000", errors.NoForm)
        # Whether lists are left open, and whether the form is sound, is asked behind all lines.
        self.check("leave 1\n" + deep, errors.TooGreat)
        self.check(full + "\nround 5", errors.TooGreat)
        self.check("round 5\ndone\n" + deep, errors.TooGreat)
        # That there are too many lines goes ahead of all.
        self.check("\n".join(["no line"] + ["x = x + 1"] * 400), errors.TooGreat)
        self.check("\n".join(["round 1"] * 401), errors.TooGreat)
        self.check("\n".join(["leave 1"] * 400), errors.NoForm)


class WritingTest(unittest.TestCase):
    def check(self, form, text):
        with self.subTest(text=text[:80]):
            self.assertEqual(exact(written_form(form)), exact(text))

    def test_written_ones(self):
        self.check([], "")
        self.check([SUM], "x = x + 1")
        self.check([("end",), ("sum", "abcdefgh", -EIGHTEEN, "rest", EIGHTEEN)],
                   f"end\nabcdefgh = -{EIGHTEEN} rest {EIGHTEEN}")
        self.check([("choice", "x", "<", -7, [], [])], "if x < -7\ndone")
        self.check([("choice", "x", "=", "y", [("end",)], [])], "if x = y\n  end\ndone")
        self.check([("choice", 0, "=", "y", [], [("end",)])], "if 0 = y\nelse\n  end\ndone")
        self.check([("round", 0, []), ("part", 9999, [])], "round 0\ndone\npart 9999\ndone")
        self.check([("round", 12, [("part", 3, [("choice", "x", "<", 1, [("again", 12), SUM], [("leave", 3)])])]), SUM],
                   "round 12\n  part 3\n    if x < 1\n      again 12\n      x = x + 1\n    else\n      leave 3\n    done\n"
                   "  done\ndone\nx = x + 1")

    def test_each_sign(self):
        for sign in SUM_SIGNS:
            self.check([("sum", "a", "b", sign, -3)], f"a = b {sign} -3")
        for sign in ("<", "="):
            self.check([("choice", -3, sign, "b", [], [])], f"if -3 {sign} b\ndone")

    def test_every_small_form(self):
        for count in range(5):
            for form in every_form(count):
                self.assertEqual(exact(read_form(written_form(form))), exact(form))

    def test_drawn_ones(self):
        for form in drawn_forms(74, 400):
            text = written_form(form)
            self.assertEqual(text, "\n".join(plain_form_lines(form)))
            self.assertEqual(exact(read_form(text)), exact(form))

    def test_long_ones(self):
        draw, counts = Draw(75), []
        for turn in range(150):
            form = draw.form(100 + draw.below(150), 2, 3, 14)
            count = len(plain_form_lines(form))
            if count <= 400:
                counts.append(count)
                self.assertEqual(exact(read_form(written_form(form))), exact(form))
        self.assertGreater(max(counts), 380)
        for size in (400, 399):
            self.assertEqual(written_form([SUM] * size), "\n".join(["x = x + 1"] * size))

    def test_deep_ones(self):
        for kinds in (("round",), ("part",), ("yes",), ("choice",), ("round", "choice", "part"), ("yes", "choice")):
            for lists in (2, 3, 50, 89, 90):
                form = nested(lists, kinds, [SUM, ("end",)])
                text = written_form(form)
                self.assertEqual(text, "\n".join(plain_form_lines(form)))
                self.assertIn("\n" + "  " * (lists - 1) + "end\n", text)
                self.assertEqual(exact(read_form(text)), exact(form))
        form = nested(120, ("round", "choice"), [SUM])
        self.assertEqual(written_form(form), "\n".join(plain_form_lines(form)))

    def test_what_is_given_stays(self):
        for form in list(drawn_forms(76, 50)) + [nested(90)]:
            check_fresh(self, written_form, form)
            check_fresh(self, lambda form: read_form(written_form(form)), form)


if __name__ == "__main__":
    unittest.main()
