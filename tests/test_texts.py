"""Texts of graphs and positions: promise [27], and what [3], [4] (i) say of them."""

import inspect
import random
import re
import unittest

from firenegatives import texts
from firenegatives.errors import InvalidPosition, InvalidText
from firenegatives.graphs import Graph
from firenegatives.texts import format_position, parse_position
from tests.samples import (
    GREAT, GRID, KITE, NOT_INTEGERS, balanced_graphs, complete_edges, finite_graphs, no_positions, path, raised,
    some_order, wild_graphs,
)

NUMBER = "(?:0|-?[1-9][0-9]*)"
FORTY = complete_edges(9) + [(0, 9), (1, 9), (2, 9), (3, 9)]
# Words that are no numbers.
NO_NUMBERS = ["-0", "00", "01", "-01", "+1", "+0", "1.0", "1_0", "1e3", "0x1", "--1", "-", "+", "a", "1a", "-a", "1-",
              "1,", "O", "None", "True", "''", "1/1", "~", "!", "007", "-00"]


def wrong_row(text):
    """Return the number of the first row that cannot follow, or None, by the words of [27]."""
    rows = text.split("\n")
    size = 0
    seen = set()
    for place, row in enumerate(rows):
        if place == 0:
            found = re.fullmatch(f"graph ({NUMBER})", row)
            if not found or not 1 <= int(found[1]) <= 16:
                return 0
            size = int(found[1])
            continue
        if re.fullmatch(f"numbers(?: {NUMBER}){{{size}}}", row):
            return place + 1 if place + 1 < len(rows) else None
        found = re.fullmatch(f"edge ({NUMBER}) ({NUMBER})", row)
        if not found:
            return place
        edge = frozenset((int(found[1]), int(found[2])))
        if len(edge) < 2 or min(edge) < 0 or max(edge) >= size or edge in seen or len(seen) == 40:
            return place
        seen.add(edge)
    return len(rows)


def drawn_graph(chance, size):
    edges = complete_edges(size)
    return Graph(size, chance.sample(edges, chance.randint(0, min(40, len(edges)))))


def some_numbers(chance, size, digits):
    return [chance.randint(-10 ** chance.randint(0, digits), 10 ** chance.randint(0, digits)) for node in range(size)]


class TestExamples(unittest.TestCase):
    def test_example(self):
        text = format_position(Graph(2, [(1, 0)]), [-1, 5])
        self.assertEqual([text, parse_position("graph 2\nedge 1 0\nnumbers 3 -4")[1]],
                         ["graph 2\nedge 0 1\nnumbers -1 5", [3, -4]])

    def test_missing_row(self):
        self.assertEqual(raised(InvalidText, parse_position, "graph 2\nedge 0 1").value, 2)


class TestInterface(unittest.TestCase):
    def test_argument_names(self):
        for name, signature in {"format_position": "(graph, position)", "parse_position": "(text)"}.items():
            function = getattr(texts, name)
            self.assertEqual(str(inspect.signature(function)), signature, name)
            self.assertEqual(function.__module__, "firenegatives.texts", name)

    def test_keywords(self):
        self.assertEqual(format_position(position=[0], graph=path(1)), "graph 1\nnumbers 0")
        self.assertEqual(parse_position(text="graph 1\nnumbers 0"), (path(1), [0]))


class TestFormat(unittest.TestCase):
    def test_by_hand(self):
        for graph, position, text in [
                (Graph(1), [0], "graph 1\nnumbers 0"), (Graph(1), [-GREAT], f"graph 1\nnumbers {-GREAT}"),
                (Graph(3), [-1, 0, 10], "graph 3\nnumbers -1 0 10"),
                (KITE, [7, -12, 0, 100], "graph 4\nedge 0 1\nedge 0 2\nedge 1 2\nedge 2 3\nnumbers 7 -12 0 100"),
                (Graph(12, [(11, 2), (10, 9), (2, 1)]), list(range(12)),
                 "graph 12\nedge 1 2\nedge 2 11\nedge 9 10\nnumbers 0 1 2 3 4 5 6 7 8 9 10 11")]:
            self.assertEqual(format_position(graph, position), text)

    def test_invalid_positions(self):
        for position in no_positions(4):
            self.assertIs(raised(InvalidPosition, format_position, KITE, position).value, position)

    def test_arguments_do_not_change(self):
        position = [3, -4]
        format_position(path(2), position)
        self.assertEqual(position, [3, -4])


class TestThereAndBack(unittest.TestCase):
    def check_text(self, graph, position):
        text = format_position(graph, position)
        result = parse_position(text)
        self.assertIs(result.__class__, tuple)
        self.assertIs(result[0].__class__, Graph)
        self.assertIs(result[1].__class__, list)
        self.assertEqual(result, (graph, position))
        self.assertEqual(format_position(*result), text)
        self.assertIsNone(wrong_row(text))
        self.assertRegex(text, r"\A[ -~]+(\n[ -~]+)*\Z")
        return text

    def test_graphs_of_all_sizes(self):
        chance = random.Random(81)
        for size in range(1, 17):
            for turn in range(12):
                self.check_text(drawn_graph(chance, size), some_numbers(chance, size, 60))

    def test_all_kinds_of_graphs(self):
        chance = random.Random(82)
        for graph in finite_graphs() + [graph for graph, weights in balanced_graphs()] + wild_graphs():
            self.check_text(graph, some_numbers(chance, graph.size(), 3))

    def test_many_digits(self):
        # Numbers of a thousand digits, as the package may have returned them.
        for number in (10 ** 59, 10 ** 60 - 1, 10 ** 999, 10 ** 1000 - 1):
            self.check_text(path(3), [number, -number, 0])
        self.check_text(Graph(16), [(-1) ** node * (10 ** 1000 - node - 1) for node in range(16)])

    def test_40_edges(self):
        self.assertEqual(len(self.check_text(Graph(10, FORTY), [1] * 10).split("\n")), 42)
        self.assertEqual(len(self.check_text(Graph(16, FORTY), [-1] * 16).split("\n")), 42)

    def test_edges_in_any_order(self):
        chance = random.Random(83)
        for graph in (KITE, GRID, Graph(10, FORTY)):
            position = some_numbers(chance, graph.size(), 9)
            rows = format_position(graph, position).split("\n")
            for turn in range(10):
                edges = [graph.edges()[place] for place in some_order(len(graph), turn)]
                mixed = [f"edge {one} {two}" if chance.random() < 0.5 else f"edge {two} {one}" for one, two in edges]
                text = "\n".join(rows[:1] + mixed + rows[-1:])
                self.assertEqual(parse_position(text), (graph, position))
                self.assertEqual(format_position(*parse_position(text)), "\n".join(rows))

    def test_results_are_new(self):
        text = "graph 2\nedge 0 1\nnumbers 3 -4"
        parse_position(text)[1].append(9)
        self.assertEqual(parse_position(text), (path(2), [3, -4]))


class TestInvalidTexts(unittest.TestCase):
    def check_wrong(self, place, *rows):
        text = "\n".join(rows)
        self.assertEqual(wrong_row(text), place, text)
        caught = raised(InvalidText, parse_position, text)
        self.assertEqual(caught.value, place, text)
        self.assertIs(caught.value.__class__, int)

    def test_values_that_are_no_texts(self):
        for thing in [thing for thing in NOT_INTEGERS if not isinstance(thing, str)] + [
                0, 1, b"graph 1\nnumbers 0", ["graph 1", "numbers 0"], ("graph 1\nnumbers 0",), {"graph 1": 0},
                (path(1), [0]), path(1), bytearray(b"graph 1"), iter("graph 1\nnumbers 0")]:
            self.assertEqual(raised(InvalidText, parse_position, thing).value, 0)

    def test_sizes(self):
        for size in ["0", "17", "-1", "-2", "16384", "1 2", "", "1 ", " 1", "100", str(GREAT), "-16"] + NO_NUMBERS:
            for rows in ([], ["numbers 1"], ["edge 0 1", "numbers 1 1"]):
                self.check_wrong(0, f"graph {size}", *rows)
        for row in ("graph", "Graph 2", "graphs 2", "2", "", " graph 2", "graph  2", "graph\t2", "edge 0 1",
                    "numbers 1 2", "graph-2", "grap 2", "GRAPH 2", "graph 2 edge 0 1 numbers 1 2", "; graph 2"):
            self.check_wrong(0, row)
            self.check_wrong(0, row, "numbers 1 2")
            self.check_wrong(0, row, "graph 2", "numbers 1 2")
        for size in range(1, 17):
            text = f"graph {size}\nnumbers" + " 7" * size
            self.assertEqual(parse_position(text), (Graph(size), [7] * size))

    def test_edges(self):
        for row in ["edge 0 3", "edge 3 0", "edge -1 0", "edge 0 -1", "edge 1 1", "edge 0 0", "edge 0", "edge 0 1 2",
                    "edge", "edge ", "edge 0 ", "edge  0 1", "edge 0  1", " edge 0 1", "edge 0 1 ", "Edge 0 1",
                    "edges 0 1", "0 1", "edge\t0 1", "edge 0\t1", "edge 0,1", "edge (0, 1)", "edge 0 16",
                    f"edge 0 {GREAT}"]:
            self.check_wrong(1, "graph 3", row, "numbers 1 2 3")
            self.check_wrong(2, "graph 3", "edge 2 0", row, "edge 2 1", "numbers 1 2 3")
            self.check_wrong(1, "graph 3", row)
        for word in NO_NUMBERS:
            self.check_wrong(1, "graph 3", f"edge {word} 2", "numbers 1 2 3")
            self.check_wrong(1, "graph 3", f"edge 2 {word}", "numbers 1 2 3")

    def test_edges_that_occurred_before(self):
        for row in ("edge 0 1", "edge 1 0"):
            for again in ("edge 0 1", "edge 1 0"):
                self.check_wrong(2, "graph 3", row, again, "numbers 1 2 3")
                self.check_wrong(3, "graph 3", row, "edge 1 2", again, "numbers 1 2 3")
                self.check_wrong(3, "graph 3", row, "edge 1 2", again, again)

    def test_the_41st_edge(self):
        rows = [f"edge {two} {one}" for one, two in FORTY]
        parse_position("\n".join(["graph 16"] + rows + ["numbers" + " 1" * 16]))
        for row in ("edge 9 8", "edge 8 9", "edge 14 15", "edge 0 1", "nothing"):
            self.check_wrong(41, "graph 16", *rows, row, "numbers" + " 1" * 16)
            self.check_wrong(41, "graph 16", *rows, row)
        self.check_wrong(41, "graph 16", *rows)

    def test_rows_of_numbers(self):
        for row in ["numbers", "numbers ", "numbers 1", "numbers 1 2", "numbers 1 2 3 4", "numbers 1 2 3 ",
                    "numbers  1 2 3", "numbers 1  2 3", " numbers 1 2 3", "numbers 1 2\t3", "Numbers 1 2 3",
                    "number 1 2 3", "1 2 3", "numbers 1, 2, 3", "numbers [1, 2, 3]", "numbers 1 2 3 numbers 1 2 3"]:
            self.check_wrong(1, "graph 3", row)
            self.check_wrong(2, "graph 3", "edge 0 1", row)
            self.check_wrong(2, "graph 3", "edge 0 1", row, "numbers 1 2 3")
        for word in NO_NUMBERS:
            for numbers in (f"{word} 2 3", f"1 {word} 3", f"1 2 {word}"):
                self.check_wrong(2, "graph 3", "edge 0 1", f"numbers {numbers}")
        self.check_wrong(1, "graph 1", "numbers")
        self.assertEqual(parse_position("graph 3\nnumbers 0 -1 100")[1], [0, -1, 100])

    def test_rows_behind_the_numbers(self):
        for row in ("", " ", "edge 0 1", "edge 1 2", "numbers 1 2 3", "graph 3", "end"):
            self.check_wrong(3, "graph 3", "edge 0 1", "numbers 1 2 3", row)
            self.check_wrong(3, "graph 3", "edge 0 1", "numbers 1 2 3", row, "numbers 1 2 3")

    def test_missing_rows(self):
        self.check_wrong(0, "")
        self.check_wrong(1, "graph 3")
        self.check_wrong(2, "graph 3", "edge 0 1")
        self.check_wrong(3, "graph 3", "edge 0 1", "edge 2 1")
        self.check_wrong(1, "graph 3", "")
        self.check_wrong(2, "graph 3", "edge 0 1", "")

    def test_empty_rows(self):
        rows = ["graph 3", "edge 0 1", "edge 1 2", "numbers 1 2 3"]
        for place in range(5):
            for row in ("", " "):
                self.check_wrong(place, *rows[:place], row, *rows[place:])
                self.check_wrong(place, *rows[:place], row, row, *rows[place:])

    def test_digits_that_are_none_of_0_to_9(self):
        # Characters beyond the blank to ~ are unspecified, but whatever they are, they are no digits of [27].
        for word in ("\u0661", "\u00b2", "1\u0660", "\uff11"):
            self.check_wrong(1, "graph 1", f"numbers {word}")
            self.check_wrong(0, f"graph {word}", "numbers 1")

    def test_many_digits(self):
        self.check_wrong(0, "graph 1" + "0" * 3000, "numbers 1")
        self.check_wrong(1, "graph 2", "edge 0 1" + "0" * 3000, "numbers 1 2")
        self.check_wrong(1, "graph 1", "numbers 0" + "1" * 3000)
        self.assertEqual(parse_position("graph 1\nnumbers 1" + "0" * 999), (path(1), [10 ** 999]))

    def test_changed_texts(self):
        chance = random.Random(84)
        found = {"right": 0, "wrong": 0}
        for turn in range(3000):
            size = chance.choice((1, 2, 3, 5, 12, 16))
            text = format_position(drawn_graph(chance, size), some_numbers(chance, size, 2))
            for change in range(chance.choice((1, 1, 2))):
                place = chance.randrange(len(text))
                kind = chance.randrange(5)
                if kind == 0:
                    text = text[:place] + text[place + 1:]
                elif kind == 1:
                    text = text[:place] + chance.choice("01239- \n+aeg") + text[place:]
                elif kind == 2:
                    text = text[:place] + chance.choice("01239- \n+aeg") + text[place + 1:]
                else:
                    rows = text.split("\n")
                    row = rows.pop(chance.randrange(len(rows)))
                    for copies in range(kind - 3 + chance.randrange(2)):
                        rows.insert(chance.randrange(len(rows) + 1), row)
                    text = "\n".join(rows)
                if not text:
                    break
            place = wrong_row(text)
            if place is None:
                graph, position = parse_position(text)
                found["right"] += 1
                self.assertEqual(sorted(format_position(graph, position).split("\n")),
                                 sorted(self.ordered(row) for row in text.split("\n")))
            else:
                found["wrong"] += 1
                self.assertEqual(raised(InvalidText, parse_position, text).value, place, text)
        self.assertGreater(min(found.values()), 300)

    def ordered(self, row):
        """Return a row of an edge with its smaller node first, another one as it is."""
        words = row.split(" ")
        return " ".join(words[:1] + sorted(words[1:], key=int)) if words[0] == "edge" else row


if __name__ == "__main__":
    unittest.main()
