"""The console: promise [28], and what [3], [4] (h) say of it."""

import inspect
import random
import unittest

from firenegatives import console as console_file
from firenegatives.boards import Board
from firenegatives.console import Console
from firenegatives.errors import (
    InvalidCommand, InvalidEdge, InvalidNode, InvalidSize, NoBoard, NotNegative, NothingToUndo, TooMany,
)
from firenegatives.families import kind
from firenegatives.graphs import Graph
from firenegatives.texts import format_position, parse_position
from tests.samples import NOT_INTEGERS, complete_edges, raised

FORTY = complete_edges(9) + [(0, 9), (1, 9), (2, 9), (3, 9)]
TWELVE = 999999999999
# A line of each kind that a console accepts if there are boards a and b with two nodes each.
LINES = ["new c 3", "drop a", "twin a c", "names", "edge a 0 1", "cut b 0 1", "put a 0 -5", "fire b 0", "undo b",
         "node a 7", "numbers a", "show a", "left a", "end a", "kind a"]
NO_NAMES = ["", "A", "aB", "abcdefghi", "a1", "1", "a_b", "-", "a-b", "a.", "_a", "0", "~", "a,b"]
NO_NUMBERS = ["", "-", "+1", "-0", "00", "01", "-01", "1.0", "1a", "a", "1000000000000", "-1000000000000",
              "0000000000000", "--1", "1_0", "0x1", "1,", "-+1"]


def some_console():
    """Return a console with two boards, of which the second one has an edge and a negative number."""
    console = Console()
    for line in ("new a 2", "new b 2", "edge b 0 1", "put b 0 -3"):
        console.run(line)
    return console


def told(console):
    """Return what a console tells of all its boards."""
    names = console.run("names").split(" ") if len(console) else []
    return [names] + [[console.run(f"{word} {name}") for word in ("show", "left", "end", "kind")] for name in names]


def expected_of(board, word):
    """Return what [28] says that a line tells of a board."""
    result = board.remaining()
    if word == "numbers":
        return " ".join(str(number) for number in board.position())
    if word == "show":
        return "; ".join(format_position(board.graph(), board.position()).split("\n"))
    if word == "left":
        return str(result[1]) if result[0] == "ends" else result[0]
    if word == "end":
        return " ".join(str(number) for number in result[2]) if result[0] == "ends" else result[0]
    parts = len(board.graph().components())
    return kind(board.graph()) if parts == 1 else f"parts {parts}"


class Model:
    """What a console keeps, by the words of [28]: a dict of boards."""

    def __init__(self):
        self.boards = {}

    def perform(self, line):
        word, *rest = line.split(" ")
        if word == "names":
            return " ".join(sorted(self.boards)) or "-"
        name, *values = rest
        if word == "new":
            self.boards[name] = Board(Graph(int(values[0])), [0] * int(values[0]))
            return "ok"
        if name not in self.boards:
            raise NoBoard(name)
        board = self.boards[name]
        if word == "drop":
            del self.boards[name]
        elif word == "twin":
            self.boards[values[0]] = board.twin()
        elif word == "edge":
            board.add_edge(int(values[0]), int(values[1]))
        elif word == "cut":
            board.remove_edge(int(values[0]), int(values[1]))
        elif word == "put":
            board.put(int(values[0]), int(values[1]))
        elif word == "fire":
            board.fire(0, int(values[0]))
        elif word == "undo":
            board.undo()
        elif word == "node":
            return str(board.add_node(int(values[0])))
        else:
            return expected_of(board, word)
        return "ok"


def drawn_line(chance, model):
    """Return a line, most of the time one that a board accepts."""
    names = sorted(model.boards)
    name = chance.choice(names) if names and chance.random() < 0.95 else chance.choice(("a", "b", "other"))
    board = model.boards.get(name)
    size = board.graph().size() if board else 3
    negative = [node for node in range(size) if board and board.position()[node] < 0]
    some_node = lambda: chance.randrange(size) if chance.random() < 0.96 else chance.choice((size, -1, TWELVE))
    word = chance.choice(["new", "drop", "twin", "names"] + 3 * ["edge", "put", "fire", "undo", "node"]
                         + ["cut", "numbers", "show", "left", "end", "kind"])
    if word == "names":
        return word
    if word == "new":
        return f"new {chance.choice('abcdefgh')} {chance.choice((1, 2, 3, 4, 5, 15, 16, 0, 17))}"
    if word == "twin":
        return f"twin {name} {chance.choice('abcdefgh')}"
    if word == "put":
        return f"put {name} {some_node()} {chance.choice((-1, -2, -3, 0, 1, 5, -TWELVE, TWELVE))}"
    if word == "node":
        return f"node {name} {chance.randint(-4, 6)}"
    if word == "fire":
        return f"fire {name} {chance.choice(negative) if negative and chance.random() < 0.8 else some_node()}"
    if word in ("edge", "cut"):
        edges = board.graph().edges() if board else []
        one, two = chance.choice(edges) if word == "cut" and edges else (some_node(), some_node())
        return f"{word} {name} {one} {two}"
    return f"{word} {name}"


class TestExamples(unittest.TestCase):
    def test_example(self):
        console = Console()
        made = [console.run("new a 3"), console.run("edge a 0 1"), console.run("put a 1 -4")]
        self.assertEqual(
            [made, console.run("numbers a"), console.run("left a"), console.run("end a"), console.run("kind a")],
            [["ok", "ok", "ok"], "0 -4 0", "2", "4 0 0", "parts 2"])


class TestInterface(unittest.TestCase):
    def test_methods_and_argument_names(self):
        self.assertEqual(Console.__module__, "firenegatives.console")
        self.assertIs(console_file.Console, Console)
        for name, signature in {"__init__": "(self)", "run": "(self, line)", "__len__": "(self)"}.items():
            self.assertIn(name, vars(Console))
            self.assertEqual(str(inspect.signature(getattr(Console, name))), signature)

    def test_keywords(self):
        console = Console()
        self.assertEqual(console.run(line="new a 1"), "ok")
        self.assertEqual(len(console), 1)


class TestLines(unittest.TestCase):
    def test_a_session(self):
        console = Console()
        for line, result in [
                ("names", "-"), ("new tri 3", "ok"), ("numbers tri", "0 0 0"), ("kind tri", "parts 3"),
                ("show tri", "graph 3; numbers 0 0 0"), ("left tri", "0"), ("end tri", "0 0 0"),
                ("edge tri 1 0", "ok"), ("edge tri 1 2", "ok"), ("kind tri", "finite"), ("put tri 1 -4", "ok"),
                ("show tri", "graph 3; edge 0 1; edge 1 2; numbers 0 -4 0"), ("left tri", "4"), ("end tri", "0 4 0"),
                ("edge tri 0 2", "ok"), ("kind tri", "balanced"), ("left tri", "never"), ("end tri", "never"),
                ("put tri 0 5", "ok"), ("left tri", "8"), ("end tri", "0 0 1"), ("fire tri 1", "ok"),
                ("numbers tri", "1 4 -4"), ("left tri", "7"), ("twin tri b", "ok"), ("node b -2", "3"), ("left b", "8"),
                ("kind b", "parts 2"), ("edge b 3 0", "ok"), ("kind b", "wild"), ("names", "b tri"),
                ("undo tri", "ok"), ("numbers tri", "5 -4 0"), ("numbers b", "1 4 -4 -2"), ("cut tri 2 0", "ok"),
                ("show tri", "graph 3; edge 0 1; edge 1 2; numbers 5 -4 0"), ("drop tri", "ok"), ("names", "b"),
                ("drop b", "ok"), ("names", "-")]:
            self.assertEqual(console.run(line), result, line)
        self.assertEqual(len(console), 0)

    def test_open(self):
        console = Console()
        console.run("new kite 4")
        for edge in ("0 1", "0 2", "1 2", "2 3"):
            console.run(f"edge kite {edge}")
        for first, expected in [(500, "999"), (501, "open"), (5, "9")]:
            for node, number in enumerate((first, 1, -first, 10 ** 9)):
                console.run(f"put kite {node} {number}")
            self.assertEqual(console.run("left kite"), expected)
            self.assertEqual(len(console.run("end kite").split(" ")), 1 if expected == "open" else 4)
        self.assertEqual(console.run("put kite 0 -1"), "ok")
        self.assertEqual([console.run("left kite"), console.run("end kite")], ["never", "never"])

    def test_each_kind_of_line(self):
        for line in LINES:
            console = some_console()
            result = console.run(line)
            self.assertIs(result.__class__, str)
            if line.split(" ")[0] in ("new", "drop", "twin", "edge", "cut", "put", "fire", "undo"):
                self.assertEqual(result, "ok")

    def test_drawn_lines_against_boards(self):
        chance = random.Random(91)
        raised_errors = {}
        for turn in range(30):
            console, model = Console(), Model()
            for step in range(120):
                line = drawn_line(chance, model)
                before = {name: (board, board.twin(), board.log()) for name, board in model.boards.items()}
                try:
                    expected = model.perform(line)
                except (InvalidEdge, InvalidNode, InvalidSize, NoBoard, NotNegative, NothingToUndo, TooMany) as error:
                    caught = raised(error.__class__, console.run, line)
                    self.assertEqual(vars(caught), vars(error))
                    raised_errors[error.__class__] = raised_errors.get(error.__class__, 0) + 1
                    for name, (board, twin, log) in before.items():
                        self.assertEqual([model.boards[name], board.log()], [twin, log])
                else:
                    self.assertEqual(console.run(line), expected, line)
                self.assertEqual(len(console), len(model.boards))
                self.assertEqual(console.run("names"), " ".join(sorted(model.boards)) or "-")
                for name, board in model.boards.items():
                    self.assertEqual(console.run(f"show {name}"), expected_of(board, "show"))
        self.assertEqual(len(raised_errors), 7)

    def test_all_boards_at_the_end_of_a_session(self):
        chance = random.Random(92)
        console, model = Console(), Model()
        for name in ("a", "b", "c", "d", "e"):
            console.run(f"new {name} 3")
            model.perform(f"new {name} 3")
        for step in range(150):
            line = drawn_line(chance, model)
            try:
                model.perform(line)
                console.run(line)
            except (InvalidEdge, InvalidNode, InvalidSize, NoBoard, NotNegative, NothingToUndo, TooMany):
                pass
        for name, board in model.boards.items():
            for word in ("numbers", "show", "left", "end", "kind"):
                self.assertEqual(console.run(f"{word} {name}"), expected_of(board, word))
            while len(board):
                board.undo()
                self.assertEqual(console.run(f"undo {name}"), "ok")
                self.assertEqual(console.run(f"show {name}"), expected_of(board, "show"))
            raised(NothingToUndo, console.run, f"undo {name}")

    def test_show_and_parse(self):
        console = some_console()
        graph, position = parse_position(console.run("show b").replace("; ", "\n"))
        self.assertEqual([graph, position], [Graph(2, [(0, 1)]), [-3, 0]])

    def test_returned_numbers_may_have_more_digits(self):
        console = Console()
        console.run("new a 16")
        for node in range(1, 16):
            console.run(f"edge a 0 {node}")
            console.run(f"put a {node} -{TWELVE}")
        for node in range(1, 16):
            console.run(f"fire a {node}")
        self.assertEqual(console.run("numbers a"), " ".join([str(-15 * TWELVE)] + [str(TWELVE)] * 15))
        console.run("new b 2")
        console.run("edge b 0 1")
        console.run(f"put b 0 -{TWELVE}")
        console.run(f"put b 1 -{TWELVE}")
        self.assertEqual(console.run("end b"), f"{TWELVE} {TWELVE}")
        console.run("fire b 0")
        self.assertEqual(console.run("numbers b"), f"{TWELVE} {-2 * TWELVE}")


class TestNames(unittest.TestCase):
    def test_lengths_of_names(self):
        console = Console()
        for name in ("a", "z", "ab", "abcdefgh", "names", "new", "zzzzzzzz"):
            self.assertEqual(console.run(f"new {name} 2"), "ok")
            self.assertEqual(console.run(f"twin {name} other"), "ok")
            self.assertEqual(console.run(f"numbers {name}"), "0 0")
        self.assertEqual(console.run("names"), "a ab abcdefgh names new other z zzzzzzzz")
        self.assertEqual(len(console), 8)

    def test_no_names(self):
        console = some_console()
        before = told(console)
        for name in NO_NAMES:
            for line in (f"new {name} 2", f"twin a {name}", f"twin {name} a", f"twin {name} {name}", f"undo {name}",
                         f"drop {name}", f"show {name}", f"put {name} 0 1", f"edge {name} 0 1", f"kind {name}"):
                self.assertIs(raised(InvalidCommand, console.run, line).value, line)
        self.assertEqual(told(console), before)

    def test_names_and_len(self):
        console = Console()
        self.assertEqual([console.run("names"), len(console)], ["-", 0])
        for name, names in [("b", "b"), ("a", "a b"), ("c", "a b c"), ("ab", "a ab b c"), ("b", "a ab b c")]:
            console.run(f"new {name} 1")
            self.assertEqual([console.run("names"), len(console)], [names, len(names.split(" "))])
        for name, names in [("ab", "a b c"), ("c", "a b"), ("a", "b"), ("b", "-")]:
            console.run(f"drop {name}")
            self.assertEqual(console.run("names"), names)
        self.assertEqual(len(console), 0)

    def test_new_over_a_kept_name(self):
        console = some_console()
        self.assertEqual(console.run("new b 3"), "ok")
        self.assertEqual([console.run("show b"), len(console)], ["graph 3; numbers 0 0 0", 2])
        raised(NothingToUndo, console.run, "undo b")
        for size in ("0", "17", "-1", str(TWELVE)):
            self.assertEqual(raised(InvalidSize, console.run, f"new b {size}").value, int(size))
            self.assertEqual(raised(InvalidSize, console.run, f"new c {size}").value, int(size))
        self.assertEqual([console.run("show b"), console.run("names")], ["graph 3; numbers 0 0 0", "a b"])

    def test_drop(self):
        console = some_console()
        self.assertEqual(console.run("drop a"), "ok")
        for line in ("drop a", "numbers a", "twin a b", "undo a"):
            self.assertEqual(raised(NoBoard, console.run, line).value, "a")
        self.assertEqual([console.run("names"), len(console)], ["b", 1])
        self.assertEqual(console.run("numbers b"), "-3 0")

    def test_twin(self):
        console = some_console()
        self.assertEqual(console.run("twin b a"), "ok")
        self.assertEqual(console.run("twin b c"), "ok")
        self.assertEqual([console.run("names"), len(console)], ["a b c", 3])
        console.run("fire b 0")
        console.run("put c 1 9")
        self.assertEqual([console.run(f"numbers {name}") for name in "abc"], ["-3 0", "3 -3", "-3 9"])
        for name, rows in (("a", 2), ("b", 3), ("c", 3)):
            for turn in range(rows):
                self.assertEqual(console.run(f"undo {name}"), "ok")
            self.assertEqual(console.run(f"show {name}"), "graph 2; numbers 0 0")
            raised(NothingToUndo, console.run, f"undo {name}")

    def test_twin_over_its_own_name(self):
        console = some_console()
        self.assertEqual(console.run("twin b b"), "ok")
        self.assertEqual([console.run("names"), console.run("numbers b")], ["a b", "-3 0"])
        console.run("undo b")
        console.run("undo b")
        raised(NothingToUndo, console.run, "undo b")

    def test_two_consoles(self):
        one, two = some_console(), some_console()
        one.run("new c 1")
        one.run("put a 0 -9")
        one.run("drop b")
        self.assertEqual(told(two), told(some_console()))
        self.assertEqual([len(one), len(two)], [2, 2])
        two.run("put a 0 4")
        self.assertEqual(one.run("numbers a"), "-9 0")


class TestNumbers(unittest.TestCase):
    def test_twelve_digits(self):
        console = some_console()
        for number in (TWELVE, -TWELVE, 0, -1, 100000000000):
            self.assertEqual(console.run(f"put a 1 {number}"), "ok")
            self.assertEqual(console.run("numbers a"), f"0 {number}")
            self.assertEqual(console.run(f"node a {number}"), str(2))
            console.run("undo a")

    def test_no_numbers(self):
        console = some_console()
        before = told(console)
        for number in NO_NUMBERS:
            for line in (f"new c {number}", f"put a 0 {number}", f"put a {number} 0", f"fire b {number}",
                         f"edge a 0 {number}", f"edge a {number} 1", f"cut b 0 {number}", f"cut b {number} 1",
                         f"node a {number}"):
                self.assertIs(raised(InvalidCommand, console.run, line).value, line)
        self.assertEqual(told(console), before)

    def test_nodes_and_sizes_are_numbers_too(self):
        console = some_console()
        for node in (2, -1, TWELVE, -TWELVE):
            for line in (f"fire a {node}", f"put a {node} 1", f"edge a {node} 0", f"edge a 0 {node}", f"cut a {node} 0",
                         f"cut a 0 {node}"):
                self.assertEqual(raised(InvalidNode, console.run, line).value, node)


class TestWrongLines(unittest.TestCase):
    def test_words_too_few_and_too_many(self):
        console = some_console()
        before = told(console)
        for line in LINES:
            words = line.split(" ")
            for count in range(len(words)):
                self.check_wrong(console, " ".join(words[:count]))
            for more in ("a", "1", "0", "-", "ok"):
                self.check_wrong(console, f"{line} {more}")
                self.check_wrong(console, f"{more} {line}")
        self.assertEqual(told(console), before)

    def check_wrong(self, console, line):
        if line != "names":
            self.assertIs(raised(InvalidCommand, console.run, line).value, line)

    def test_spaces_and_line_feeds(self):
        console = some_console()
        before = told(console)
        for line in LINES:
            places = [place for place, letter in enumerate(line) if letter == " "] + [0, len(line)]
            for place in places:
                for sign in (" ", "\n", "\t", "\r", "; "):
                    self.check_wrong(console, line[:place] + sign + line[place:])
                if 0 < place < len(line):
                    for sign in ("\n", "\t", "", "_", ","):
                        self.check_wrong(console, line[:place] + sign + line[place + 1:])
        self.assertEqual(told(console), before)

    def test_words_that_are_no_commands(self):
        console = some_console()
        for line in ("", " ", "-", "ok", "Names", "NAMES", "name", "names a", "New c 2", "board a", "remaining a",
                     "position a", "play a 5", "together a", "play_on a 3", "add_edge a 0 1", "put_number a 0 1", "len",
                     "make c 2", "run names", "fire a 0 0", "undo", "__len__", "parts a", "log a", "scores a"):
            self.assertIs(raised(InvalidCommand, console.run, line).value, line)

    def test_values_that_are_no_texts(self):
        console = some_console()
        for line in [line for line in NOT_INTEGERS if not isinstance(line, str)] + [
                0, 1, b"names", ["names"], ("names",), ["n", "a"], {"names": 1}, Board(Graph(1), [0]), console]:
            self.assertIs(raised(InvalidCommand, console.run, line).value, line)

    def test_no_board(self):
        console = some_console()
        before = told(console)
        for line in ("drop c", "twin c a", "twin c c", "twin c d", "edge c 0 1", "cut c 0 1", "put c 0 1", "fire c 0",
                     "undo c", "node c 1", "numbers c", "show c", "left c", "end c", "kind c"):
            caught = raised(NoBoard, console.run, line)
            self.assertEqual(caught.value, "c")
            self.assertEqual(raised(NoBoard, Console().run, line).value, "c")
        self.assertEqual(told(console), before)

    def test_order_of_the_exceptions(self):
        console = some_console()
        for line in ("put c 0 01", "fire c -0", "twin c ABC", "edge c 0", "undo c 1", "node c x", "drop c c"):
            raised(InvalidCommand, console.run, line)
        for line in ("put c 99 1", "fire c 99", "edge c 5 5", "cut c -1 9", "node c 1"):
            self.assertEqual(raised(NoBoard, console.run, line).value, "c")

    def test_exceptions_of_the_boards(self):
        console = some_console()
        before = told(console)
        for line, error, value in [
                ("new c 0", InvalidSize, 0), ("edge a 0 2", InvalidNode, 2), ("edge a 3 2", InvalidNode, 3),
                ("edge a 1 1", InvalidEdge, (1, 1)), ("edge b 1 0", InvalidEdge, (1, 0)),
                ("cut a 0 1", InvalidEdge, (0, 1)), ("cut b 1 1", InvalidEdge, (1, 1)),
                ("put a -1 1", InvalidNode, -1), ("fire a 0", NotNegative, 0), ("fire b 1", NotNegative, 1),
                ("fire b 2", InvalidNode, 2)]:
            self.assertEqual(raised(error, console.run, line).value, value)
        raised(NothingToUndo, console.run, "undo a")
        self.assertEqual(told(console), before)

    def test_bounds_of_the_boards(self):
        console = Console()
        console.run("new a 15")
        self.assertEqual(console.run("node a 3"), "15")
        self.assertEqual(raised(TooMany, console.run, "node a 3").value, 17)
        for one, two in FORTY:
            console.run(f"edge a {two} {one}")
        self.assertEqual(raised(TooMany, console.run, "edge a 14 15").value, 41)
        self.assertEqual(console.run("show a").count("edge"), 40)
        self.assertEqual(console.run("cut a 0 1"), "ok")
        self.assertEqual(console.run("edge a 14 15"), "ok")


if __name__ == "__main__":
    unittest.main()
