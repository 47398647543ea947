"""The program as a whole: points [2] and [3], from texts of rows to forms, rows of these, and names given once."""

import os
import subprocess
import sys
import unittest

from helper import (Draw, check_fresh, come_to, drawn_forms, exact, goals_of, is_orderly, is_way, must, plain_graph, plain_run)
from unjump import errors
from unjump.desk import rejumped, unjumped
from unjump.doubling import doubled
from unjump.flat import rows_of
from unjump.formruns import run_form
from unjump.forms import sound
from unjump.formtexts import read_form, written_form
from unjump.graphs import graph_of, laid_out
from unjump.guiding import guided
from unjump.musts import musts, stands_above, way_round
from unjump.nodes import comings, run_graph, ways
from unjump.once import once, run_once
from unjump.rings import heads, nest, orderly, ring, two_ways
from unjump.rows import read, written
from unjump.running import run
from unjump.sums import holds, made, worth
from unjump.telling import told
from unjump.tidying import tidied


HERE = os.path.dirname(os.path.abspath(__file__))


def program(draw):
    """The rows of a program; by turns those drawn row by row, and those of a drawn graph."""
    if draw.below(2):
        return draw.rows(1 + draw.below(40))
    kinds = (3 + draw.below(6), draw.below(3), draw.one_of(["any", "near", "up", "on", "mixed"]), 1 + draw.below(4))
    return laid_out(draw.graph(1 + draw.below(40), *kinds))


def programs(seed, count):
    draw, found = Draw(seed), 0
    while found < count:
        rows = program(draw)
        if len(plain_graph(rows)) <= 40:
            found += 1
            yield rows


def answer(function, *given):
    """What is told, or the refusal and its row."""
    try:
        return exact(function(*given))
    except errors.JumpError as refusal:
        return f"{type(refusal).__name__} {refusal.row}"


def questions(rows, memory, most):
    """All functions, each with what can be made of the rows, as tuples of the function and what is given."""
    graph, text = graph_of(rows), written(rows)
    asked = [(read, text), (written, rows), (run, rows, memory, most), (graph_of, rows), (comings, graph),
             (run_graph, graph, memory, most), (laid_out, graph), (musts, graph), (orderly, graph), (heads, graph),
             (nest, graph), (two_ways, graph), (doubled, graph), (guided, graph), (told, graph), (once, graph),
             (run_once, once(graph), memory, most), (unjumped, text), (unjumped, text, "twice"),
             (unjumped, text, "guided"), (unjumped, text, "never"), (rejumped, text), (read_form, text)]
    asked += [(ways, node) for node in graph] + [(ring, graph, head) for head in heads(graph)]
    asked += [(way_round, graph, place, len(graph) - 1) for place in range(len(graph))]
    asked += [(stands_above, musts(graph), place, len(graph) - 1) for place in range(len(graph))]
    asked += [(worth, operand, memory) for operand in ("x", "none", 5)]
    asked += [(made, sign, 7, -3) for sign in ("+", "-", "/", "rest", "&", "^")] + [(holds, sign, 1, 2) for sign in "<="]
    for change in (lambda graph: graph, lambda graph: doubled(graph)[0], lambda graph: guided(graph)[0]):
        try:
            form = told(change(graph))
        except errors.JumpError:
            continue
        asked += [(sound, form), (written_form, form), (read_form, written_form(form)), (run_form, form, memory, most),
                  (rows_of, form), (tidied, form), (rejumped, written_form(form))]
    return asked


class PromiseTest(unittest.TestCase):
    def check_runs(self, draw, rows, others):
        """All of them do what the rows do; others are rows, graphs and forms, with the functions that run them."""
        for memory in ({}, draw.memory(), draw.memory()):
            deeds = len(plain_run(rows, memory, 60)[0])
            for most in (0, 1, 3, deeds, max(0, deeds - 1), deeds + 1, 60):
                asked = exact(plain_run(rows, memory, most))
                for function, other in others:
                    self.assertEqual(exact(function(other, memory, most)), asked, rows)

    def test_the_runs_of_orderly_programs(self):
        draw, found = Draw(151), 0
        for rows in programs(152, 250):
            graph = graph_of(rows)
            if not orderly(graph):
                continue
            found += 1
            form = told(graph)
            again = rows_of(form)
            self.assertEqual(exact(graph_of(again)), exact(graph))
            self.check_runs(draw, rows, [(run, rows), (run_graph, graph), (run_form, form), (run, again),
                                         (run, read(rejumped(written_form(form))))])
        self.assertGreater(found, 80)

    def test_the_runs_of_doubled_programs(self):
        draw, found = Draw(153), 0
        for rows in programs(154, 250):
            graph = graph_of(rows)
            try:
                new, origins = doubled(graph)
            except errors.TooGreat:
                continue
            found += not orderly(graph)
            form = told(new)
            self.check_runs(draw, rows, [(run_graph, new), (run_form, form), (run, rows_of(form)), (run, laid_out(new))])
        self.assertGreater(found, 20)

    def test_each_node_stands_once_in_the_form_of_an_orderly_program(self):
        for rows in programs(155, 200):
            graph = graph_of(rows)
            if orderly(graph):
                asked = sorted(exact(node[:5] if node[0] == "sum" else node[:4]) for node in graph if node[0] in ("sum", "test"))
                lines = sorted(exact(row[1:] if row[1] == "sum" else row[1:5]) for row in rows_of(told(graph))
                               if row[1] in ("sum", "test"))
                self.assertEqual(lines, asked)

    def test_who_must_be_come_through(self):
        for rows in programs(156, 60):
            graph = graph_of(rows)
            tree = musts(graph)
            for one in range(len(graph)):
                for other in range(len(graph)):
                    above = stands_above(tree, one, other)
                    self.assertIs(above, must(graph, one, other))
                    way = way_round(graph, one, other)
                    if above:
                        self.assertIsNone(way)
                    else:
                        self.assertTrue(is_way(graph, way) and one not in way and way[0] == 0 and way[-1] == other)

    def test_orderly_or_not(self):
        tells = []
        for rows in programs(157, 200):
            graph = graph_of(rows)
            tells.append(orderly(graph))
            self.assertIs(orderly(graph), is_orderly(graph))
            if orderly(graph):
                self.assertIsNone(two_ways(graph))
                for place, node in enumerate(graph):
                    self.assertTrue(all(goal > place or stands_above(musts(graph), goal, place) for goal in goals_of(node)))
            else:
                around, one, other = two_ways(graph)
                self.assertTrue(is_way(graph, around + around[:1]))
                for way in (one, other):
                    self.assertTrue(is_way(graph, way) and way[0] == 0)
                    self.assertEqual([place for place in way if place in around], way[-1:])
                self.assertNotEqual(one[-1], other[-1])
        self.assertTrue(40 < tells.count(True) < 160)

    def test_all_nodes_can_be_come_to(self):
        for rows in programs(158, 100):
            graph = graph_of(rows)
            graphs = [graph]
            for function in (doubled, guided):
                try:
                    graphs.append(function(graph)[0])
                except errors.TooGreat:
                    pass
            for one in graphs:
                self.assertEqual(come_to(one), set(range(len(one))))
                self.assertEqual(exact(graph_of(laid_out(one))), exact(one))

    def test_forms_told_as_rows_and_told_again(self):
        """What a form tells is kept, though it is told otherwise: its rows' graph is the graph of what is told of it."""
        for form in drawn_forms(159, 300):
            try:
                graph = graph_of(rows_of(form))
            except errors.TooGreat:
                continue
            self.assertEqual(exact(graph_of(rows_of(told(graph)))), exact(graph))
            self.assertEqual(exact(graph_of(rows_of(tidied(form)))), exact(graph))


class AnswersTest(unittest.TestCase):
    def test_the_same_question_has_the_same_answer(self):
        draw = Draw(160)
        asked = []
        for rows in programs(161, 25):
            asked += questions(rows, draw.memory(), draw.below(30))
        first = [answer(*question) for question in asked]
        last = [answer(*question) for question in reversed(asked)]
        self.assertEqual(first, last[::-1])

    def test_nothing_that_was_given_is_written_into(self):
        draw = Draw(162)
        for rows in programs(163, 25):
            for question in questions(rows, draw.memory(), draw.below(30)):
                try:
                    check_fresh(self, *question)
                except errors.JumpError:
                    before = exact(question[1:])
                    self.assertEqual(answer(*question), answer(*question))
                    self.assertEqual(exact(question[1:]), before)

    def test_answers_share_nothing(self):
        """Of answers to unlike questions, too, one may be changed without the other."""
        graph = graph_of(read("0: x = x + 1\n1: if x < 3 jump 0\n2: jump 2"))
        form = told(graph)
        kept = exact((form, rows_of(form), once(graph), doubled(graph), guided(graph), nest(graph)))
        for one in (told(graph), tidied(form), once(graph), doubled(graph)[0], guided(graph)[0], nest(graph), laid_out(graph)):
            one.clear()
        for statement in told(graph):
            if statement[0] == "round":
                statement[2].clear()
        self.assertEqual(exact((form, rows_of(form), once(graph), doubled(graph), guided(graph), nest(graph))), kept)

    def test_answers_do_not_hang_on_the_process(self):
        """Texts have other hashes in each process; no answer may hang on them."""
        script = ("from test_whole import Draw, answer, programs, questions\n"
                  "draw = Draw(164)\n"
                  "for rows in programs(165, 8):\n"
                  "    for question in questions(rows, draw.memory(), 20):\n"
                  "        print(answer(*question))\n")
        outputs = [subprocess.run([sys.executable, "-c", script], capture_output=True, check=True, cwd=HERE,
                                  env={**os.environ, "PYTHONHASHSEED": seed}).stdout for seed in ("0", "1", "77")]
        self.assertEqual(len(set(outputs)), 1)
        self.assertGreater(len(outputs[0]), 1000)


if __name__ == "__main__":
    unittest.main()
