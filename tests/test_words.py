"""unjump.words: the names of point [5], the numbers and operands of point [7]."""

import unittest

from unjump.words import is_name, read_number, read_operand, read_sum, read_test, read_whole, written_sum, written_test

KEPT = ("if", "jump", "end", "rest", "round", "part", "leave", "again", "else", "done")
LETTERS = "abcdefghijklmnopqrstuvwxyz"
FIGURES = "0123456789"
OTHER_SIGNS = [chr(code) for code in range(32, 127) if chr(code) not in LETTERS + FIGURES] + ["\n", "\t"]
# Wordings that no kind of figures has, however many of them it takes.
NO_FIGURES = (
    "", "-", "--", "--1", "-+1", "+", "+1", "+0", "1-", "1-1", "00", "01", "007", "-00", "-01", "-0",
    " ", " 1", "1 ", "1 1", "- 1", "-1 ", "\t1", "1\n", "\n", "1_0", "1.0", "1e3", "0x1", "1a", "a1", "A", "1,",
)


class NameTest(unittest.TestCase):
    def test_one_to_eight_signs(self):
        for word in ("a", "z", "m", "x1", "z09", "way0", "abcdefg", "abcdefgh", "a1234567", "z9z9z9z9"):
            with self.subTest(word=word):
                self.assertIs(is_name(word), True)

    def test_each_letter_and_each_figure(self):
        for letter in LETTERS:
            self.assertIs(is_name(letter), True)
            self.assertIs(is_name("x" + letter), True)
        for figure in FIGURES:
            self.assertIs(is_name("x" + figure), True)

    def test_none_and_nine_signs(self):
        for word in ("", "abcdefghi", "a12345678", "a" * 100000):
            self.assertIs(is_name(word), False)

    def test_a_figure_first(self):
        for figure in FIGURES:
            self.assertIs(is_name(figure), False)
            self.assertIs(is_name(figure + "x"), False)

    def test_great_letters(self):
        for word in ("A", "Z", "aB", "Ab", "abcdefgH"):
            self.assertIs(is_name(word), False)

    def test_other_signs(self):
        for sign in OTHER_SIGNS:
            for word in (sign, "a" + sign, sign + "a", "a" + sign + "a"):
                with self.subTest(word=word):
                    self.assertIs(is_name(word), False)

    def test_kept_words(self):
        for word in KEPT:
            with self.subTest(word=word):
                self.assertIs(is_name(word), False)

    def test_kept_words_with_one_sign_more_or_less(self):
        for word in KEPT:
            for near in ("a" + word, word + "a", word + "0", word[:-1]):
                with self.subTest(near=near):
                    self.assertIs(is_name(near), True)


class NumberTest(unittest.TestCase):
    def test_one_to_four_figures(self):
        for number in list(range(0, 1200)) + [8999, 9000, 9998, 9999]:
            answer = read_number(str(number))
            self.assertEqual(answer, number)
            self.assertIs(type(answer), int)

    def test_five_figures_and_more(self):
        for word in ("10000", "99999", "00000", "00001", "1" * 18, "1" * 100000):
            self.assertIsNone(read_number(word))

    def test_a_nought_ahead(self):
        for word in ("00", "01", "010", "0000", "0999"):
            self.assertIsNone(read_number(word))

    def test_no_minus(self):
        for word in ("-1", "-10", "-999"):
            self.assertIsNone(read_number(word))

    def test_other_wordings(self):
        for word in NO_FIGURES + ("x",) + KEPT:
            with self.subTest(word=word):
                self.assertIsNone(read_number(word))

    def test_other_signs(self):
        for sign in OTHER_SIGNS:
            for word in (sign, "1" + sign, sign + "1", "1" + sign + "1"):
                with self.subTest(word=word):
                    self.assertIsNone(read_number(word))


class WholeTest(unittest.TestCase):
    def test_one_to_eighteen_figures(self):
        for figures in range(1, 19):
            for number in (10 ** (figures - 1), 10 ** figures - 1):
                with self.subTest(number=number):
                    self.assertEqual(read_whole(str(number)), number)
                    self.assertEqual(read_whole("-" + str(number)), -number)

    def test_each_small_number(self):
        for number in range(-1100, 1101):
            answer = read_whole(str(number))
            self.assertEqual(answer, number)
            self.assertIs(type(answer), int)

    def test_nineteen_figures_and_more(self):
        for figures in ("1" + "0" * 18, "9" * 19, "0" * 19, "1" * 100000):
            self.assertIsNone(read_whole(figures))
            self.assertIsNone(read_whole("-" + figures))

    def test_nought(self):
        self.assertEqual(read_whole("0"), 0)
        self.assertIsNone(read_whole("-0"))

    def test_other_wordings(self):
        for word in NO_FIGURES + ("x",) + KEPT:
            with self.subTest(word=word):
                self.assertIsNone(read_whole(word))

    def test_other_signs(self):
        for sign in OTHER_SIGNS:
            for word in ("1" + sign, "1" + sign + "1", "-1" + sign, "-" + sign + "1"):
                with self.subTest(word=word):
                    self.assertIsNone(read_whole(word))
            if sign != "-":
                self.assertIsNone(read_whole(sign + "1"))


class OperandTest(unittest.TestCase):
    def test_a_name_is_told_as_it_is(self):
        for word in ("a", "x1", "abcdefgh", "iff", "rest0"):
            self.assertEqual(read_operand(word), word)

    def test_a_number_is_told_as_a_number(self):
        for word, number in (("0", 0), ("7", 7), ("-7", -7), ("9" * 18, 10 ** 18 - 1), ("-" + "9" * 18, 1 - 10 ** 18)):
            answer = read_operand(word)
            self.assertEqual(answer, number)
            self.assertIs(type(answer), int)

    def test_what_is_neither(self):
        for word in ("", "X", "-x", "1x", "abcdefghi", "-", "-0", "00", "+1", "1 ", " x", "x ", "9" * 19) + KEPT:
            with self.subTest(word=word):
                self.assertIsNone(read_operand(word))

    def test_the_same_each_time(self):
        for word in ("x", "-7", "-0"):
            self.assertEqual(read_operand(word), read_operand(word))


class SumAndTestTest(unittest.TestCase):
    def test_sums(self):
        for sign in ("+", "-", "/", "rest", "&", "^"):
            self.assertEqual(read_sum(["x", "=", "y", sign, "-3"]), ("x", "y", sign, -3))
            self.assertEqual(written_sum("x", "y", sign, -3), f"x = y {sign} -3")

    def test_tests(self):
        for sign in ("<", "="):
            self.assertEqual(read_test(["4", sign, "x"]), (4, sign, "x"))
            self.assertEqual(written_test(4, sign, "x"), f"if 4 {sign} x")

    def test_what_is_no_sum(self):
        for text in ("", "x", "x = 1 +", "x = 1 + 2 3", "1 = 1 + 2", "x < 1 + 2", "x = 1 < 2", "if = 1 + 2", "x = rest + 2",
                     "x = 1 rest end", "x = 1  2", "x = 1 * 2"):
            self.assertIsNone(read_sum(text.split(" ")))

    def test_what_is_no_test(self):
        for text in ("", "x", "x <", "x < 1 2", "x + 1", "if < 1", "1 = jump", "x  1", "x > 1"):
            self.assertIsNone(read_test(text.split(" ")))


if __name__ == "__main__":
    unittest.main()
