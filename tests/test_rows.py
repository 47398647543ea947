"""unjump.rows: points [5] to [8], and [2] for them."""

import unittest

from helper import Draw, check_fresh, exact
from unjump import errors
from unjump.rows import read, written

KEPT = ("if", "jump", "end", "rest", "round", "part", "leave", "again", "else", "done")
REFUSALS = (errors.NoRow, errors.NoJump, errors.NoEnd, errors.TooGreat,
            errors.NoForm, errors.TwoWays, errors.NoWay, errors.ByNought)
EIGHTEEN = 10 ** 18 - 1
GOOD = ("x = y + 3", "if x < -7 jump 0", "jump 0", "end")


class ReadingTest(unittest.TestCase):
    def check(self, text, rows):
        with self.subTest(text=text[:80]):
            self.assertEqual(exact(read(text)), exact(rows))

    def check_one(self, line, row):
        """A row that needn't be the last one: another one stands behind it."""
        self.check(f"0: {line}\n1: end", [(0,) + row, (1, "end")])

    def test_the_document_s_own(self):
        self.check("10: x = y + 3\n20: if x < -7 jump 10\n30: end",
                   [(10, "sum", "x", "y", "+", 3), (20, "test", "x", "<", -7, 10), (30, "end")])

    def test_each_sign_of_a_sum(self):
        for sign in ("+", "-", "/", "rest", "&", "^"):
            self.check_one(f"a = b {sign} c", ("sum", "a", "b", sign, "c"))
            self.check_one(f"a = -1 {sign} 0", ("sum", "a", -1, sign, 0))

    def test_each_sign_of_a_test(self):
        for sign in ("<", "="):
            self.check_one(f"if b {sign} c jump 1", ("test", "b", sign, "c", 1))
            self.check_one(f"if -1 {sign} 0 jump 0", ("test", -1, sign, 0, 0))

    def test_jumps_and_ends(self):
        self.check_one("jump 1", ("jump", 1))
        self.check_one("jump 0", ("jump", 0))
        self.check_one("end", ("end",))

    def test_names_at_their_bounds(self):
        for name in ("a", "z", "a0", "abcdefgh", "z9999999", "ends", "iff", "rest1", "jum"):
            self.check_one(f"{name} = {name} + {name}", ("sum", name, name, "+", name))
            self.check_one(f"if {name} = {name} jump 0", ("test", name, "=", name, 0))

    def test_operands_at_their_bounds(self):
        for number in (0, 1, 9, 10, EIGHTEEN, 10 ** 17, -1, -10, -EIGHTEEN):
            self.check_one(f"x = {number} - {number}", ("sum", "x", number, "-", number))
            self.check_one(f"if {number} < {number} jump 1", ("test", number, "<", number, 1))

    def test_numbers_at_their_bounds(self):
        self.check("0: end", [(0, "end")])
        self.check("9999: jump 9999", [(9999, "jump", 9999)])
        self.check("0: jump 9999\n9: jump 0\n10: jump 9\n999: jump 10\n1000: jump 999\n9999: end",
                   [(0, "jump", 9999), (9, "jump", 0), (10, "jump", 9), (999, "jump", 10), (1000, "jump", 999),
                    (9999, "end")])

    def test_a_test_may_go_to_itself_or_on(self):
        self.check("5: if x = x jump 5\n6: if x = x jump 7\n7: end",
                   [(5, "test", "x", "=", "x", 5), (6, "test", "x", "=", "x", 7), (7, "end")])

    def test_lines_without_signs(self):
        rows = [(1, "sum", "x", "x", "+", 1), (2, "end")]
        for text in ("1: x = x + 1\n2: end", "\n1: x = x + 1\n2: end", "1: x = x + 1\n\n\n2: end",
                     "1: x = x + 1\n2: end\n", "\n\n\n1: x = x + 1\n\n2: end\n\n\n"):
            self.check(text, rows)

    def test_eighty_rows(self):
        lines = [f"{number}: x = x + {number}" for number in range(79)] + ["79: end"]
        rows = [(number, "sum", "x", "x", "+", number) for number in range(79)] + [(79, "end")]
        self.check("\n".join(lines), rows)
        self.check("\n\n" + "\n\n".join(lines) + "\n" * 100, rows)

    def test_kinds(self):
        rows = read("1: x = y + 3\n2: if 1 < x jump 1\n3: jump 3")
        self.assertIs(type(rows), list)
        for row in rows:
            self.assertIs(type(row), tuple)
            for thing in row:
                self.assertIn(type(thing), (int, str))

    def test_made_anew(self):
        for text in ("0: end", "1: x = y + 3\n2: if 1 < x jump 1\n3: jump 3"):
            check_fresh(self, read, text)


class RefusalTest(unittest.TestCase):
    def check(self, text, kind, row=None):
        with self.subTest(text=text[:80]):
            with self.assertRaises(errors.JumpError) as context:
                read(text)
            self.assertIs(type(context.exception), kind)
            self.assertEqual(exact(context.exception.row), exact(row))
            self.assertIsInstance(context.exception, ValueError)

    def check_no_row(self, line):
        """A line that is no row, at three places among such as are."""
        self.check(line, errors.NoRow, 0)
        self.check(f"{line}\n9999: end", errors.NoRow, 0)
        self.check(f"\n0: x = x + 1\n\n{line}\n9999: end", errors.NoRow, 3)
        self.check(f"0: jump 0\n{line}", errors.NoRow, 1)

    def test_blanks(self):
        for good in GOOD:
            for line in (f" 1: {good}", f"1: {good} ", f"1:  {good}", f"1:{good}", f"1 : {good}", f"1 {good}", good,
                         f"1:\t{good}", f"\t1: {good}", f"1: {good}\t", f"1: {good}  ", f"  1: {good}"):
                self.check_no_row(line)
            for place in [place for place, sign in enumerate(good) if sign == " "]:
                self.check_no_row(f"1: {good[:place]} {good[place:]}")
                self.check_no_row(f"1: {good[:place]}\t{good[place + 1:]}")
                self.check_no_row(f"1: {good[:place]}{good[place + 1:]}")

    def test_lines_of_blanks_alone(self):
        for line in (" ", "  ", " " * 50, "\t", " \t "):
            self.check_no_row(line)

    def test_numbers_of_rows(self):
        for number in ("00", "01", "0001", "10000", "99999", "-1", "-0", "+1", "x", "", "1.", "1_0", "1a"):
            self.check_no_row(f"{number}: end")
            self.check_no_row(f"1: jump {number}")
            self.check_no_row(f"1: if x < y jump {number}")

    def test_the_colon(self):
        for line in ("1 end", "1; end", "1:: end", ":1 end", ": end", ":", "1:", "1: ", "end", "1"):
            self.check_no_row(line)

    def test_operands(self):
        for word in ("00", "01", "-0", "-01", "-", "--1", "+1", "9" * 19, "-" + "9" * 19, "0" * 18, "X", "aB", "abcdefghi",
                     "1a", "a-", "a_b", "", "-x") + KEPT:
            self.check_no_row(f"1: x = {word} + 1")
            self.check_no_row(f"1: x = 1 + {word}")
            self.check_no_row(f"1: if {word} < 1 jump 1")
            self.check_no_row(f"1: if 1 < {word} jump 1")

    def test_names(self):
        for word in ("X", "xY", "abcdefghi", "1", "0", "1a", "-x", "a_b", "", "x:") + KEPT:
            self.check_no_row(f"1: {word} = 1 + 1")

    def test_signs(self):
        for sign in ("*", "//", "**", "++", "%", "|", "<", "=", "==", "REST", "mod", "", "~", ">", "x", "1"):
            self.check_no_row(f"1: x = 1 {sign} 1")
        for sign in (">", "==", "<=", "+", "-", "rest", "&", "^", "/", "!", "", "x", "1"):
            self.check_no_row(f"1: if 1 {sign} 1 jump 1")

    def test_words_too_many_or_too_few(self):
        for told in ("", "x", "x =", "x = 1", "x = 1 +", "x = 1 + 2 3", "x = 1 + 2 + 3", "x 1 + 2", "= 1 + 2", "x = + 1",
                     "if", "if x", "if x <", "if x < y", "if x < y jump", "if x < y jump 1 2", "if x < y 1", "if x y jump 1",
                     "if x < y z jump 1", "if x < y end", "if x < y Jump 1", "If x < y jump 1", "if x < y then 1",
                     "jump", "jump 1 1", "jump jump 1", "jump end", "Jump 1", "end end", "end 1", "End", "END", "ends",
                     "jump x", "x := 1 + 1", "x == 1 + 1", "again 1", "leave 1", "round 1", "part 1", "done", "else"):
            self.check_no_row(f"1: {told}")

    def test_great_letters(self):
        for good in GOOD:
            for place in [place for place, sign in enumerate(good) if sign.isalpha()]:
                self.check_no_row(f"1: {good[:place]}{good[place].upper()}{good[place + 1:]}")

    def test_a_number_that_is_not_greater(self):
        self.check("1: x = x + 1\n1: end", errors.NoRow, 1)
        self.check("2: x = x + 1\n1: end", errors.NoRow, 1)
        self.check("0: end\n0: end", errors.NoRow, 1)
        self.check("\n\n10: end\n\n9: end\n20: end", errors.NoRow, 4)
        self.check("1: end\n5: end\n3: end", errors.NoRow, 2)
        self.check("9999: end\n9999: end", errors.NoRow, 1)

    def test_a_goal_that_no_row_has(self):
        self.check("1: jump 2", errors.NoJump, 0)
        self.check("1: jump 0", errors.NoJump, 0)
        self.check("1: x = x + 1\n2: if x < 3 jump 3\n4: end", errors.NoJump, 1)
        self.check("\n1: x = x + 1\n\n\n2: if x < 3 jump 3\n4: end", errors.NoJump, 4)
        self.check("1: jump 4\n\n2: jump 9999\n3: jump 7\n4: end", errors.NoJump, 2)
        self.check("1: jump 4\n\n2: jump 2\n3: if x = x jump 0\n4: end", errors.NoJump, 3)

    def test_no_end(self):
        self.check("", errors.NoEnd)
        self.check("\n", errors.NoEnd)
        self.check("\n" * 99999, errors.NoEnd)
        self.check("1: x = x + 1", errors.NoEnd)
        self.check("1: if x < 1 jump 1", errors.NoEnd)
        self.check("1: end\n2: x = x + 1", errors.NoEnd)
        self.check("1: end\n2: if x < 1 jump 1\n", errors.NoEnd)
        self.check("1: jump 2\n2: x = x + 1\n\n", errors.NoEnd)

    def test_too_great(self):
        lines = [f"{number}: x = x + {number}" for number in range(80)] + ["80: end"]
        self.check("\n".join(lines), errors.TooGreat)
        self.check("\n\n" + "\n\n".join(lines) + "\n\n", errors.TooGreat)
        self.check("\n".join(["0: end"] * 81), errors.TooGreat)
        self.check("\n".join([" "] * 81), errors.TooGreat)
        self.check("\n".join(["a"] * 50000), errors.TooGreat)

    def test_eighty_lines_are_looked_at(self):
        self.check("\n".join([" "] * 80), errors.NoRow, 0)
        self.check("\n\n" + "\n".join(["0: end"] * 80), errors.NoRow, 3)

    def test_long_lines(self):
        for line in (" " * 100000, "1" * 100000, "1: " + "x" * 99990, "x " * 50000, "1: x = 1 + " + "9" * 99900):
            self.check(line, errors.NoRow, 0)

    def test_the_first_that_is_due(self):
        great = "\n".join(f"{number}: x = x + 1" for number in range(81))
        self.check("wrong\n" + great, errors.TooGreat)
        self.check("0: jump 9000\n" + great, errors.TooGreat)
        self.check("1: jump 7\nwrong", errors.NoRow, 1)
        self.check("1: jump 7\n1: end", errors.NoRow, 1)
        self.check("1: jump 7\n2: x = x + 1\n\nwrong", errors.NoRow, 3)
        self.check("1: jump 7\n2: x = x + 1", errors.NoJump, 0)
        self.check("1: x = x + 1\n2: if x < 1 jump 3", errors.NoJump, 1)
        self.check("wrong\n1: end\n1: end", errors.NoRow, 0)
        self.check("2: end\n1: end\nwrong", errors.NoRow, 1)
        self.check("3: end\nwrong\n2: end", errors.NoRow, 1)
        self.check("2: jump 8\n3: jump 9", errors.NoJump, 0)
        self.check("3: jump 3\n4: if x < 1 jump 9\n5: jump 8", errors.NoJump, 1)

    def test_no_row_counts_as_the_row_before(self):
        self.check("9: end\nwrong\n10: end", errors.NoRow, 1)
        self.check("wrong: end\n10: end", errors.NoRow, 0)

    def test_caught_by_its_own_name_alone(self):
        cases = (("1", errors.NoRow), ("1: jump 2", errors.NoJump), ("", errors.NoEnd), ("\n".join("a" * 81), errors.TooGreat))
        for text, kind in cases:
            self.assertRaises(kind, read, text)
            self.assertRaises(errors.JumpError, read, text)
            for other in REFUSALS:
                self.assertEqual(issubclass(kind, other), kind.__name__ == other.__name__)

    def test_the_same_each_time(self):
        for text in ("wrong", "\n1: jump 2", "1: x = x + 1"):
            for turn in range(3):
                kinds = []
                for again in range(2):
                    with self.assertRaises(errors.JumpError) as context:
                        read(text)
                    kinds.append((type(context.exception), context.exception.row))
                self.assertEqual(kinds[0], kinds[1])


class WritingTest(unittest.TestCase):
    def check(self, rows, text):
        with self.subTest(text=text[:80]):
            self.assertEqual(exact(written(rows)), exact(text))

    def test_each_kind_of_row(self):
        self.check([(10, "sum", "x", "y", "+", 3), (20, "test", "x", "<", -7, 10), (21, "jump", 30), (30, "end")],
                   "10: x = y + 3\n20: if x < -7 jump 10\n21: jump 30\n30: end")

    def test_each_sign(self):
        for sign in ("+", "-", "/", "rest", "&", "^"):
            self.check([(0, "sum", "a", -5, sign, "b"), (9999, "end")], f"0: a = -5 {sign} b\n9999: end")
        for sign in ("<", "="):
            self.check([(0, "test", "a", sign, 0, 0), (1, "jump", 0)], f"0: if a {sign} 0 jump 0\n1: jump 0")

    def test_one_row(self):
        self.check([(0, "end")], "0: end")
        self.check([(9999, "jump", 9999)], "9999: jump 9999")

    def test_great_operands(self):
        self.check([(1, "sum", "x", EIGHTEEN, "-", -EIGHTEEN), (2, "end")], f"1: x = {EIGHTEEN} - -{EIGHTEEN}\n2: end")

    def test_more_than_eighty_rows(self):
        for count in (80, 81, 500, 2000):
            rows = [(number, "sum", "x", "x", "+", number) for number in range(count - 1)] + [(count - 1, "end")]
            lines = [f"{number}: x = x + {number}" for number in range(count - 1)] + [f"{count - 1}: end"]
            self.check(rows, "\n".join(lines))

    def test_what_is_written_is_read_again(self):
        draw = Draw(7)
        for turn in range(400):
            rows = draw.rows(1 + draw.below(80))
            text = written(rows)
            self.assertEqual(text.count("\n"), len(rows) - 1)
            self.assertEqual(exact(read(text)), exact(rows))
            self.assertEqual(written(read(text)), text)

    def test_what_is_given_stays(self):
        check_fresh(self, written, [(10, "sum", "x", "y", "+", 3), (20, "test", "x", "<", -7, 10), (30, "end")])


if __name__ == "__main__":
    unittest.main()
