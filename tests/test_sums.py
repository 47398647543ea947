"""unjump.sums: points [4] and [5], and [2] for them."""

import unittest

from unjump import errors
from unjump.sums import deed_of_sum, deed_of_test, holds, made, worth

SIGNS = ("+", "-", "/", "rest", "&", "^")
SIXTY = 10 ** 59
SMALL = list(range(-17, 18))
GREAT = [
    255, 256, 10 ** 9, 2 ** 31 - 1, 2 ** 31, 2 ** 63 - 1, 2 ** 63, 2 ** 64, 10 ** 18 - 1, 10 ** 18,
    3 ** 40, 10 ** 30 + 7, SIXTY, SIXTY + 1, 10 ** 60 - 1, 7 * SIXTY + 3 ** 100,
    123456789012345678901234567890123456789012345678901234567890,
    987654321098765432109876543210987654321098765432109876543210,
]
NUMBERS = SMALL + GREAT + [-number for number in GREAT]
PAIRS = [(one, other) for one in NUMBERS for other in NUMBERS]
# Two hundred bits hold sixty figures; some more show what stands above them.
BITS = 220


def has_bit(number, place):
    """Whether a number has a bit, as point [4] tells it for numbers below nought."""
    if number < 0:
        return not has_bit(-1 - number, place)
    return number // 2 ** place % 2 == 1


def of_bits(bits):
    """The number of such bits, the last of which stands for all above it."""
    if bits[-1]:
        return -1 - of_bits([not bit for bit in bits])
    return sum(2 ** place for place, bit in enumerate(bits) if bit)


class MadeTest(unittest.TestCase):
    def check(self, sign, rows):
        for one, other, answer in rows:
            with self.subTest(sign=sign, one=one, other=other):
                self.assertEqual(made(sign, one, other), answer)

    def test_plus(self):
        self.check("+", [
            (2, 3, 5), (0, 0, 0), (0, 9, 9), (9, 0, 9), (2, -3, -1), (-2, 3, 1), (-2, -3, -5),
            (10 ** 60 - 1, 1, 10 ** 60), (SIXTY, -SIXTY, 0), (-SIXTY, -1, -SIXTY - 1),
            (123456789012345678901234567890123456789012345678901234567890,
             987654321098765432109876543210987654321098765432109876543210,
             1111111110111111111011111111101111111110111111111011111111100),
        ])

    def test_minus(self):
        self.check("-", [
            (5, 3, 2), (3, 5, -2), (0, 0, 0), (0, 9, -9), (9, 0, 9), (2, -3, 5), (-2, 3, -5), (-2, -3, 1),
            (10 ** 60, 1, 10 ** 60 - 1), (SIXTY, SIXTY, 0), (-SIXTY, 1, -SIXTY - 1),
            (987654321098765432109876543210987654321098765432109876543210,
             123456789012345678901234567890123456789012345678901234567890,
             864197532086419753208641975320864197532086419753208641975320),
        ])

    def test_quotient(self):
        self.check("/", [
            (7, 2, 3), (-7, 2, -4), (7, -2, -4), (-7, -2, 3),
            (6, 2, 3), (-6, 2, -3), (6, -2, -3), (-6, -2, 3),
            (0, 5, 0), (0, -5, 0), (1, 5, 0), (-1, 5, -1), (1, -5, -1), (-1, -5, 0), (5, 1, 5), (5, -1, -5),
            (10 ** 60 - 1, SIXTY, 9), (1 - 10 ** 60, SIXTY, -10), (SIXTY, 3, int("3" * 59)),
        ])

    def test_rest(self):
        self.check("rest", [
            (7, 2, 1), (-7, 2, 1), (7, -2, -1), (-7, -2, -1),
            (6, 2, 0), (-6, 2, 0), (6, -2, 0), (-6, -2, 0),
            (0, 5, 0), (0, -5, 0), (1, 5, 1), (-1, 5, 4), (1, -5, -4), (-1, -5, -1), (5, 1, 0), (5, -1, 0),
            (10 ** 60 - 1, SIXTY, SIXTY - 1), (1 - 10 ** 60, SIXTY, 1), (SIXTY, 3, 1), (SIXTY, -3, -2),
        ])

    def test_and(self):
        self.check("&", [
            (12, 10, 8), (5, 2, 0), (0, 0, 0), (0, -1, 0), (-1, -1, -1), (-1, 13, 13), (13, -1, 13),
            (-4, 7, 4), (7, -4, 4), (-4, -6, -8), (-1, SIXTY, SIXTY), (2 ** 199 + 5, 2 ** 199 + 6, 2 ** 199 + 4),
            (-2 ** 198, 2 ** 199 - 1, 2 ** 198),
        ])

    def test_just_one(self):
        self.check("^", [
            (12, 10, 6), (5, 2, 7), (0, 0, 0), (9, 9, 0), (-9, -9, 0), (0, -1, -1), (-1, 5, -6), (5, -1, -6),
            (-4, 7, -5), (-4, -6, 6), (SIXTY, 0, SIXTY), (SIXTY, -1, -1 - SIXTY),
            (2 ** 199 + 5, 2 ** 199 + 6, 3), (-2 ** 198, 2 ** 198, -2 ** 199),
        ])

    def test_plus_and_minus_undo_one_another(self):
        for one, other in PAIRS:
            self.assertEqual(made("-", made("+", one, other), other), one)
            self.assertEqual(made("+", one, other), one + other)
            self.assertEqual(made("-", one, other), -made("-", other, one))

    def test_quotient_and_rest_belong_together(self):
        for one, other in PAIRS:
            if other != 0:
                quotient, rest = made("/", one, other), made("rest", one, other)
                self.assertEqual(one, other * quotient + rest, (one, other))
                if other > 0:
                    self.assertTrue(0 <= rest < other, (one, other))
                else:
                    self.assertTrue(other < rest <= 0, (one, other))

    def test_bits_one_by_one(self):
        for one, other in PAIRS:
            ones = [has_bit(one, place) for place in range(BITS)]
            others = [has_bit(other, place) for place in range(BITS)]
            both = [a and b for a, b in zip(ones, others)]
            just_one = [a != b for a, b in zip(ones, others)]
            self.assertEqual(made("&", one, other), of_bits(both), (one, other))
            self.assertEqual(made("^", one, other), of_bits(just_one), (one, other))

    def test_what_is_made_is_a_whole_number(self):
        for sign in SIGNS:
            for one, other in [(0, 1), (1, 1), (-1, 1), (7, -2), (SIXTY, 3)]:
                with self.subTest(sign=sign, one=one, other=other):
                    self.assertIs(type(made(sign, one, other)), int)

    def test_the_same_each_time(self):
        for sign in SIGNS:
            answers = [made(sign, -SIXTY, 7) for turn in range(3)]
            self.assertEqual(answers, [answers[0]] * 3)


class ByNoughtTest(unittest.TestCase):
    ONES = (0, 1, -1, 7, -7, SIXTY, -SIXTY)

    def test_caught_by_its_name_and_those_above(self):
        for sign in ("/", "rest"):
            for one in self.ONES:
                for caught in (errors.ByNought, errors.JumpError, ValueError):
                    with self.subTest(sign=sign, one=one, caught=caught):
                        with self.assertRaises(caught) as context:
                            made(sign, one, 0)
                        self.assertIs(type(context.exception), errors.ByNought)
                        self.assertIsNone(context.exception.row)

    def test_caught_by_no_other_refusal(self):
        others = (errors.NoRow, errors.NoJump, errors.NoEnd, errors.TooGreat,
                  errors.NoForm, errors.TwoWays, errors.NoWay, ArithmeticError)
        for sign in ("/", "rest"):
            with self.subTest(sign=sign):
                with self.assertRaises(errors.ByNought):
                    try:
                        made(sign, 3, 0)
                    except others:
                        self.fail("caught as another refusal")

    def test_the_other_signs_take_nought(self):
        for one in self.ONES:
            answers = [made(sign, one, 0) for sign in ("+", "-", "&", "^")]
            self.assertEqual(answers, [one, one, 0, one])

    def test_nought_by_a_number_is_not_refused(self):
        for other in self.ONES[1:]:
            self.assertEqual((made("/", 0, other), made("rest", 0, other)), (0, 0))


class HoldsTest(unittest.TestCase):
    def test_neighbours_and_equals(self):
        for number in NUMBERS:
            with self.subTest(number=number):
                self.assertIs(holds("<", number, number + 1), True)
                self.assertIs(holds("<", number, number), False)
                self.assertIs(holds("<", number + 1, number), False)
                self.assertIs(holds("=", number, number + 1), False)
                self.assertIs(holds("=", number, number), True)
                self.assertIs(holds("=", number + 1, number), False)

    def test_equal_numbers_made_apart(self):
        self.assertIs(holds("=", int("9" * 60), int("9" * 60)), True)
        self.assertIs(holds("<", int("9" * 60), int("9" * 60)), False)

    def test_both_sides_of_nought(self):
        self.assertIs(holds("<", -5, 5), True)
        self.assertIs(holds("<", 5, -5), False)
        self.assertIs(holds("=", -5, 5), False)
        self.assertIs(holds("<", -5, -4), True)
        self.assertIs(holds("<", -SIXTY, SIXTY), True)
        self.assertIs(holds("=", 0, 0), True)

    def test_just_one_of_less_greater_and_equal(self):
        for one, other in PAIRS:
            truths = [holds("<", one, other), holds("<", other, one), holds("=", one, other)]
            self.assertEqual(sorted(truths), [False, False, True], (one, other))


class WorthTest(unittest.TestCase):
    def test_a_name_in_the_memory(self):
        memory = {"x": 5, "y": -SIXTY, "rest1": 7}
        self.assertEqual(worth("x", memory), 5)
        self.assertEqual(worth("y", memory), -SIXTY)
        self.assertEqual(worth("rest1", memory), 7)

    def test_a_name_that_is_not_in_it(self):
        for memory in ({}, {"x": 5}, {"xx": 6, "y": 7}):
            answer = worth("z", memory)
            self.assertEqual(answer, 0)
            self.assertIs(type(answer), int)

    def test_a_name_that_is_worth_nought(self):
        self.assertEqual(worth("x", {"x": 0, "y": 1}), 0)

    def test_a_number_is_worth_itself(self):
        for number in NUMBERS:
            with self.subTest(number=number):
                self.assertEqual(worth(number, {}), number)
                self.assertEqual(worth(number, {"x": 3, "y": number + 1}), number)

    def test_the_memory_stays_as_it_was(self):
        memory = {"b": 2, "a": 0}
        for operand in ("a", "b", "c", 0, 2, -2):
            worth(operand, memory)
        self.assertEqual(list(memory.items()), [("b", 2), ("a", 0)])

    def test_a_later_change_is_seen(self):
        memory = {"a": 1}
        self.assertEqual((worth("a", memory), worth("b", memory)), (1, 0))
        memory["a"] = 2
        memory["b"] = 3
        self.assertEqual((worth("a", memory), worth("b", memory)), (2, 3))
        del memory["a"]
        self.assertEqual((worth("a", memory), worth("b", memory)), (0, 3))

    def test_one_memory_tells_nothing_of_another(self):
        self.assertEqual(worth("a", {"a": 1}), 1)
        self.assertEqual(worth("a", {}), 0)
        self.assertEqual(worth("a", {"a": 2}), 2)


class DeedTest(unittest.TestCase):
    def test_sums(self):
        self.assertEqual(deed_of_sum("z", "x", "-", "y", {"x": 5, "z": 9}), ("sum", "z", 5, "-", 0, 5))
        self.assertRaises(errors.ByNought, deed_of_sum, "z", "x", "/", "y", {"x": 5})

    def test_tests(self):
        self.assertEqual(deed_of_test("x", "<", 6, {"x": 5}), ("test", 5, "<", 6, True))
        self.assertEqual(deed_of_test("y", "=", 6, {"x": 5}), ("test", 0, "=", 6, False))

    def test_the_memory_stays_as_it_was(self):
        memory = {"x": 5}
        deed_of_sum("x", "x", "+", 1, memory)
        deed_of_test("y", "=", 6, memory)
        self.assertEqual(memory, {"x": 5})


if __name__ == "__main__":
    unittest.main()
