"""unjump.desk: point [32], with [2], [8], [13], [20], [21], [26], [27] and [30]."""

import unittest

from helper import Draw, check_fresh, drawn_forms, exact, is_orderly, plain_form_graph, plain_graph, plain_run, plain_run_form
from unjump import errors
from unjump.desk import rejumped, unjumped
from unjump.doubling import doubled
from unjump.formtexts import read_form, written_form
from unjump.graphs import graph_of, laid_out
from unjump.guiding import guided
from unjump.nodes import run_graph
from unjump.rows import read, written
from unjump.telling import told

LOOP = "10: x = x + 1\n20: if x < 3 jump 10\n30: end"
LOOP_FORM = "round 0\n  x = x + 1\n  if x < 3\n  else\n    leave 0\n  done\ndone\nend"
KNOT = "1: if a = 0 jump 4\n2: b = b + 1\n3: jump 4\n4: c = c + 1\n5: jump 2"
NO_WAYS = ("", "Once", "ONCE", "once ", " once", "onc", "oncee", "thrice", "twic", "twice\n", "guide", "guidedd", "0", "1",
           "way0", "once twice", "None")
BAD_ROWS = (("", errors.NoEnd, None), ("0: x = 1 + 1", errors.NoEnd, None), ("nothing", errors.NoRow, 0),
            ("\n\n0: end\n0: end", errors.NoRow, 3), ("\n0: end\n\n1: jump 5", errors.NoJump, 3),
            ("0: if x < 3 jump 9\n1: end", errors.NoJump, 0), ("\n".join(["0: end"] * 81), errors.TooGreat, None),
            ("\n".join(["no row"] * 81), errors.TooGreat, None))
BAD_FORMS = (("leave 1", errors.NoForm), ("round 1", errors.NoForm), ("done", errors.NoForm), ("else", errors.NoForm),
             ("nothing", errors.NoForm), ("x = 1", errors.NoForm), ("0: end", errors.NoForm), ("end ", errors.NoForm),
             ("round 1\ndone\nround 1\ndone", errors.NoForm), ("\n".join(["end"] * 401), errors.TooGreat),
             ("\n".join(["no line"] * 401), errors.TooGreat), ("\n".join(["if x = 1"] * 90), errors.TooGreat))


def rows_text(draw, most=30):
    return written(draw.rows(1 + draw.below(most)))


def drawn_texts(seed, count, most=30):
    """Texts of rows whose graphs have at most forty nodes."""
    draw, found = Draw(seed), 0
    while found < count:
        text = rows_text(draw, most)
        if len(plain_graph(read(text))) <= 40:
            found += 1
            yield text


class DeskCase(unittest.TestCase):
    def check_refused(self, kind, row, function, *given):
        with self.subTest(given=[str(thing)[:60] for thing in given]):
            with self.assertRaises(errors.JumpError) as context:
                function(*given)
            self.assertIs(type(context.exception), kind)
            self.assertEqual(exact(context.exception.row), exact(row))


class UnjumpedTest(DeskCase):
    def test_written_ones(self):
        self.assertEqual(exact(unjumped(LOOP)), exact(LOOP_FORM))
        for way in ("once", "twice", "guided"):
            self.assertEqual(exact(unjumped(LOOP, way)), exact(LOOP_FORM))
            self.assertEqual(exact(unjumped(LOOP, way=way)), exact(LOOP_FORM))
            self.assertEqual(exact(unjumped("0: end", way)), exact("end"))
            self.assertEqual(exact(unjumped("\n\n7: jump 7\n", way)), exact("round 0\ndone"))

    def test_a_graph_that_is_not_orderly(self):
        self.check_refused(errors.TwoWays, None, unjumped, KNOT)
        self.check_refused(errors.TwoWays, None, unjumped, KNOT, "once")
        graph = graph_of(read(KNOT))
        self.assertEqual(unjumped(KNOT, "twice"), written_form(told(doubled(graph)[0])))
        self.assertEqual(unjumped(KNOT, "guided"), written_form(told(guided(graph)[0])))
        self.assertNotIn("way0", unjumped(KNOT, "twice"))
        self.assertIn("way0 = ", unjumped(KNOT, "guided"))
        self.assertIn("way1 = ", unjumped(KNOT.replace("b", "way0"), "guided"))

    def test_another_way(self):
        for way in NO_WAYS:
            for text in [LOOP, KNOT] + [text for text, kind, row in BAD_ROWS]:
                self.check_refused(errors.NoWay, None, unjumped, text, way)

    def test_texts_that_are_no_rows(self):
        for text, kind, row in BAD_ROWS:
            self.check_refused(kind, row, unjumped, text)
            for way in ("once", "twice", "guided"):
                self.check_refused(kind, row, unjumped, text, way)

    def test_graphs_that_are_too_great(self):
        for way in ("once", "twice", "guided"):
            for count in (40, 41, 79):
                text = "\n".join([f"{number}: x = x + {number}" for number in range(count)] + [f"{count}: end"])
                self.check_refused(errors.TooGreat, None, unjumped, text, way)
            text = "\n".join([f"{number}: x = x + {number}" for number in range(39)] + ["39: end"])
            self.assertEqual(len(unjumped(text, way).split("\n")), 40)
            # A graph that is too great is refused for that, also where it isn't orderly.
            knot = "\n".join([f"{number}: x = x + 1" for number in range(100, 140)]) + "\n" + "\n".join(
                ["200: if a = 0 jump 204", "202: b = b + 1", "203: jump 204", "204: c = c + 1", "205: jump 202"])
            self.check_refused(errors.TooGreat, None, unjumped, knot, way)

    def test_graphs_that_come_to_be_too_great(self):
        knot = "\n".join([f"{number}: x = x + 1" for number in range(100, 137)]) + "\n" + "\n".join(
            ["200: if a = 0 jump 204", "202: b = b + 1", "203: jump 204", "204: c = c + 1", "205: jump 202"])
        self.check_refused(errors.TwoWays, None, unjumped, knot)
        self.check_refused(errors.TooGreat, None, unjumped, knot, "twice")
        self.check_refused(errors.TooGreat, None, unjumped, knot, "guided")

    def test_drawn_texts(self):
        counts = {"once": 0, "twice": 0, "guided": 0}
        for text in drawn_texts(111, 400):
            graph = plain_graph(read(text))
            if not is_orderly(graph):
                self.check_refused(errors.TwoWays, None, unjumped, text)
            else:
                self.assertEqual(exact(unjumped(text)), exact(written_form(told(graph))))
                counts["once"] += 1
            for way, function in (("twice", doubled), ("guided", guided)):
                try:
                    other = function(graph)[0]
                except errors.TooGreat:
                    self.check_refused(errors.TooGreat, None, unjumped, text, way)
                else:
                    self.assertEqual(exact(unjumped(text, way)), exact(written_form(told(other))))
                    counts[way] += not is_orderly(graph)
        self.assertGreater(min(counts.values()), 20, counts)

    def test_the_runs_are_the_same(self):
        draw = Draw(112)
        for text in drawn_texts(113, 250):
            rows = read(text)
            for way in ("once", "twice"):
                try:
                    form = read_form(unjumped(text, way))
                except (errors.TwoWays, errors.TooGreat):
                    continue
                for most in (0, 1, 2, 30):
                    memory = draw.memory()
                    self.assertEqual(exact(plain_run_form(form, memory, most)), exact(plain_run(rows, memory, most)))

    def test_the_deeds_of_the_name_that_tells_which_way_are_put_in(self):
        draw = Draw(114)
        guides = 0
        for text in drawn_texts(115, 250):
            try:
                form = read_form(unjumped(text, "guided"))
            except errors.TooGreat:
                continue
            new, origins, name = guided(plain_graph(read(text)))
            memory = draw.memory()
            deeds, word, behind = plain_run_form(form, memory, 60)
            # Which of the deeds are those of guides, is told by the run of the guided graph.
            self.assertEqual(exact((deeds, word, behind)), exact(run_graph(new, memory, 60)))
            kept = self.deeds_of_copies(new, origins, deeds)
            guides += len(kept) < len(deeds)
            asked = plain_run(read(text), memory, len(kept) if word == "on" else 60)
            self.assertEqual(exact((kept, word)), exact(asked[:2]))
        self.assertGreater(guides, 20)

    def deeds_of_copies(self, graph, origins, deeds):
        kept, place = [], 0
        for deed in deeds:
            kept += [deed] if origins[place] >= 0 else []
            place = graph[place][5] if deed[0] == "sum" or not deed[4] else graph[place][4]
        return kept

    def test_made_anew(self):
        for text in [LOOP] + list(drawn_texts(116, 10)):
            for way in ("twice", "guided"):
                try:
                    check_fresh(self, unjumped, text, way)
                except errors.TooGreat:
                    self.assertRaises(errors.TooGreat, unjumped, text, way)


class RejumpedTest(DeskCase):
    def check(self, text):
        form = read_form(text)
        rows_told = rejumped(text)
        self.assertIs(type(rows_told), str)
        self.assertEqual(exact(plain_graph(read(rows_told))), exact(plain_form_graph(form)))
        self.assertEqual(rows_told, written(laid_out(plain_form_graph(form))))
        return rows_told

    def test_written_ones(self):
        self.assertEqual(self.check(""), "0: end")
        self.assertEqual(self.check("  \n\n end"), "0: end")
        self.assertEqual(self.check("round 5\ndone\nx = x + 1"), "0: jump 0")
        self.assertEqual(self.check(LOOP_FORM), "0: x = x + 1\n1: if x < 3 jump 0\n2: end")
        self.assertEqual(self.check("if x < 1\n  y = 1 + 1\nelse\n  y = 2 + 2\ndone\nz = y + y"),
                         "0: if x < 1 jump 2\n1: jump 4\n2: y = 1 + 1\n3: jump 5\n4: y = 2 + 2\n5: z = y + y\n6: end")

    def test_texts_that_are_no_forms(self):
        for text, kind in BAD_FORMS:
            self.check_refused(kind, None, rejumped, text)

    def test_graphs_that_are_too_great(self):
        self.assertEqual(len(self.check("\n".join(["x = x + 1"] * 39)).split("\n")), 40)
        for count in (40, 41, 400):
            self.check_refused(errors.TooGreat, None, rejumped, "\n".join(["x = x + 1"] * count))
        # What is never come to doesn't count; a text that is no form is refused for that, however great it is.
        self.assertEqual(self.check("end\n" + "\n".join(["x = x + 1"] * 60)), "0: end")
        self.check_refused(errors.NoForm, None, rejumped, "\n".join(["x = x + 1"] * 60 + ["leave 1"]))
        self.check_refused(errors.NoForm, None, rejumped, "\n".join(["x = x + 1"] * 60 + ["round 1"]))

    def test_drawn_forms(self):
        greats = 0
        for form in drawn_forms(117, 600):
            text = written_form(form)
            if len(plain_form_graph(form)) > 40:
                self.check_refused(errors.TooGreat, None, rejumped, text)
                greats += 1
            else:
                rows = read(self.check(text))
                for memory, most in (({}, 0), ({"x": 2}, 1), ({"x": -3, "y": 4}, 40)):
                    self.assertEqual(exact(plain_run(rows, memory, most)), exact(plain_run_form(form, memory, most)))
        draw = Draw(118)
        for turn in range(80):
            form = draw.form(120, 0, 4, 20)
            if len(plain_form_graph(form)) > 40:
                greats += 1
                self.check_refused(errors.TooGreat, None, rejumped, written_form(form))
        self.assertGreater(greats, 10)

    def test_there_and_back(self):
        counts = {"once": 0, "twice": 0, "guided": 0}
        for text in drawn_texts(119, 300):
            for way in counts:
                try:
                    form_text = unjumped(text, way)
                except (errors.TwoWays, errors.TooGreat):
                    continue
                counts[way] += 1
                back = rejumped(form_text)
                self.assertEqual(exact(unjumped(back, "once")), exact(form_text))
                self.assertEqual(exact(unjumped(back)), exact(form_text))
                self.assertEqual(exact(rejumped(unjumped(back))), exact(back))
        self.assertGreater(min(counts.values()), 60, counts)

    def test_made_anew(self):
        for form in drawn_forms(120, 40, 0, 12):
            check_fresh(self, rejumped, written_form(form))


if __name__ == "__main__":
    unittest.main()
