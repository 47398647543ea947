"""unjump.running: point [9] with [4] to [6], and [2] for it."""

import unittest

from helper import Draw, check_fresh, exact, plain_run
from unjump.rows import read
from unjump.running import run

LOOP = read("0: x = x + 1\n1: if x < 5 jump 0\n2: end")
LOOP_DEEDS = [deed for x in range(5) for deed in
              (("sum", "x", x, "+", 1, x + 1), ("test", x + 1, "<", 5, x + 1 < 5))]


class RunTest(unittest.TestCase):
    def check(self, text, memory, most, deeds, word, behind):
        with self.subTest(text=text, memory=memory, most=most):
            rows = read(text)
            self.assertEqual(exact(run(rows, memory, most)), exact((deeds, word, behind)))
            self.assertEqual(exact(run(rows, memory, most=most)), exact((deeds, word, behind)))

    def test_an_end_at_once(self):
        for most in (0, 1, 100):
            self.check("0: end", {}, most, [], "end", {})
            self.check("0: end", {"a": 3, "b": 0}, most, [], "end", {"a": 3, "b": 0})

    def test_each_sum(self):
        cases = (("+", 7, 2, 9), ("-", 7, 9, -2), ("/", -7, 2, -4), ("rest", -7, 2, 1), ("rest", 7, -2, -1),
                 ("&", 12, 10, 8), ("&", -1, 5, 5), ("^", 12, 10, 6), ("^", -1, 5, -6))
        for sign, a, b, made in cases:
            deeds = [("sum", "z", a, sign, b, made)]
            self.check(f"3: z = {a} {sign} {b}\n4: end", {}, 9, deeds, "end", {"z": made})
            self.check(f"3: z = x {sign} {b}\n4: end", {"x": a}, 9, deeds, "end", {"x": a, "z": made})
            self.check(f"3: z = {a} {sign} y\n4: end", {"y": b, "z": 1}, 9, deeds, "end", {"y": b, "z": made})

    def test_each_test(self):
        for sign, a, b, truth in (("<", 1, 2, True), ("<", 2, 2, False), ("<", 3, 2, False), ("<", -3, -2, True),
                                  ("=", 2, 2, True), ("=", 1, 2, False), ("=", -2, 2, False)):
            text = f"0: if x {sign} {b} jump 2\n1: jump 1\n2: end"
            self.check(text, {"x": a}, 9, [("test", a, sign, b, truth)], "end" if truth else "on", {"x": a})

    def test_a_name_that_is_not_in_the_memory(self):
        self.check("0: x = y + z\n1: if w = 0 jump 2\n2: end", {"a": 5}, 9,
                   [("sum", "x", 0, "+", 0, 0), ("test", 0, "=", 0, True)], "end", {"a": 5, "x": 0})

    def test_a_name_on_both_sides(self):
        self.check("0: x = x + x\n1: x = x - y\n2: y = x / x\n3: end", {"x": 3, "y": 2}, 9,
                   [("sum", "x", 3, "+", 3, 6), ("sum", "x", 6, "-", 2, 4), ("sum", "y", 4, "/", 4, 1)],
                   "end", {"x": 4, "y": 1})

    def test_goes_to_the_row_of_the_number(self):
        text = "5: jump 30\n10: a = 1 + 0\n20: jump 40\n30: if a < 1 jump 10\n40: if a = 1 jump 60\n50: jump 5\n60: end"
        self.check(text, {}, 9, [("test", 0, "<", 1, True), ("sum", "a", 1, "+", 0, 1), ("test", 1, "=", 1, True)],
                   "end", {"a": 1})

    def test_rings_of_jumps(self):
        for most in (0, 1, 50):
            self.check("0: jump 0", {"x": 1}, most, [], "on", {"x": 1})
            self.check("0: jump 2\n1: jump 0\n2: jump 1", {}, most, [], "on", {})
            self.check("0: jump 1\n1: jump 2\n2: jump 3\n3: jump 2", {}, most, [], "on", {})
        self.check("0: x = 1 + 1\n1: jump 3\n2: end\n3: jump 4\n4: jump 1", {}, 1, [("sum", "x", 1, "+", 1, 2)], "on", {"x": 2})
        self.check("0: x = 1 + 1\n1: jump 3\n2: end\n3: jump 4\n4: jump 1", {}, 2, [("sum", "x", 1, "+", 1, 2)], "on", {"x": 2})

    def test_a_chain_of_jumps(self):
        for most in (0, 1, 50):
            self.check("0: jump 3\n1: jump 4\n2: jump 1\n3: jump 2\n4: end", {}, most, [], "end", {})

    def test_by_nought(self):
        for sign in ("/", "rest"):
            text = f"0: x = 1 + 0\n1: y = x {sign} z\n2: end"
            done = [("sum", "x", 1, "+", 0, 1)]
            self.check(text, {}, 0, [], "on", {})
            self.check(text, {}, 1, done, "on", {"x": 1})
            self.check(text, {}, 2, done, "fault", {"x": 1})
            self.check(text, {"z": 0, "y": 7}, 3, done, "fault", {"x": 1, "y": 7, "z": 0})
            self.check(text, {"z": 1}, 2, done + [("sum", "y", 1, sign, 1, 1 if sign == "/" else 0)], "end",
                       {"x": 1, "y": 1 if sign == "/" else 0, "z": 1})
            self.check(f"0: x = 5 {sign} 0\n1: end", {}, 0, [], "on", {})
            self.check(f"0: x = 5 {sign} 0\n1: end", {}, 1, [], "fault", {})

    def test_most(self):
        for most in range(13):
            x = min(5, (most + 1) // 2)
            self.assertEqual(exact(run(LOOP, {}, most)),
                             exact((LOOP_DEEDS[:most], "end" if most >= 10 else "on", {"x": x} if most else {})))

    def test_most_at_a_test(self):
        text = "0: if x < 1 jump 1\n1: end"
        self.check(text, {}, 0, [], "on", {})
        self.check(text, {}, 1, [("test", 0, "<", 1, True)], "end", {})
        self.check(text, {}, 2, [("test", 0, "<", 1, True)], "end", {})

    def test_most_left_out(self):
        rows = read("0: x = x + 1\n1: jump 0")
        deeds, word, memory = run(rows, {})
        self.assertEqual((len(deeds), word, memory), (100, "on", {"x": 100}))
        self.assertEqual(exact(run(rows, {})), exact(run(rows, {}, 100)))
        rows = [(number, "sum", "x", "x", "+", 1) for number in range(100)] + [(100, "end")]
        self.assertEqual(run(rows, {})[1:], ("end", {"x": 100}))
        rows = [(number, "sum", "x", "x", "+", 1) for number in range(101)] + [(101, "end")]
        self.assertEqual(run(rows, {})[1:], ("on", {"x": 100}))

    def test_ten_thousand_deeds(self):
        deeds, word, memory = run(read("0: x = x + 1\n1: jump 0"), {}, 10000)
        self.assertEqual((len(deeds), word, memory), (10000, "on", {"x": 10000}))
        self.assertEqual(deeds[-1], ("sum", "x", 9999, "+", 1, 10000))

    def test_two_thousand_rows(self):
        rows = [(number, "sum", "x", "x", "+", 1) for number in range(1999)] + [(1999, "end")]
        self.assertEqual(run(rows, {}, 10000)[1:], ("end", {"x": 1999}))
        self.assertEqual(run(rows, {}, 1999)[1:], ("end", {"x": 1999}))
        self.assertEqual(run(rows, {}, 1998)[1:], ("on", {"x": 1998}))

    def test_two_thousand_jumps(self):
        chain = [(number, "jump", number + 1) for number in range(1999)]
        self.assertEqual(run(chain + [(1999, "end")], {}), ([], "end", {}))
        self.assertEqual(run(chain + [(1999, "jump", 0)], {}), ([], "on", {}))
        self.assertEqual(run(chain + [(1999, "jump", 1000)], {}), ([], "on", {}))
        back = [(0, "jump", 1999)] + [(number, "jump", number - 1) for number in range(2, 2000)]
        self.assertEqual(run(back[:1] + [(1, "end")] + back[1:], {}), ([], "end", {}))

    def test_a_long_chain_in_a_loop(self):
        rows = [(0, "sum", "x", "x", "+", 1)] + [(number, "jump", number + 1) for number in range(1, 1999)]
        deeds, word, memory = run(rows + [(1999, "jump", 0)], {}, 10000)
        self.assertEqual((len(deeds), word, memory), (10000, "on", {"x": 10000}))

    def test_great_numbers(self):
        rows = read("0: x = x + x\n1: jump 0")
        self.assertEqual(run(rows, {"x": -1}, 900)[2], {"x": -2 ** 900})

    def test_against_the_plainest_way(self):
        draw = Draw(3)
        words = []
        for turn in range(1500):
            rows = draw.rows(1 + draw.below(14))
            for most in (0, 1, 2, 7, 60):
                memory = draw.memory()
                told = run(rows, memory, most)
                self.assertEqual(exact(told), exact(plain_run(rows, memory, most)), (rows, memory, most))
                words.append(told[1])
        self.assertEqual(sorted(set(words)), ["end", "fault", "on"])

    def test_kinds(self):
        told = run(LOOP, {"x": 3})
        self.assertEqual([type(thing) for thing in told], [list, str, dict])
        for deed in told[0]:
            self.assertIs(type(deed), tuple)
            self.assertIs(type(deed[-1]), int if deed[0] == "sum" else bool)

    def test_what_is_given_stays(self):
        check_fresh(self, run, LOOP, {"x": 1, "y": 2}, 7)
        check_fresh(self, run, LOOP, {}, 0)
        check_fresh(self, run, read("0: end"), {"x": 1})
        check_fresh(self, run, read("0: jump 0"), {"x": 1})
        check_fresh(self, run, read("0: x = 1 / 0\n1: end"), {"x": 1})
        memory = {"x": 1}
        self.assertIsNot(run(read("0: end"), memory)[2], memory)


if __name__ == "__main__":
    unittest.main()
