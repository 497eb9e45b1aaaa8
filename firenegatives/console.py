"""A console: lines of words that make boards under names, change them and tell of them."""

from firenegatives.boards import Board
from firenegatives.errors import InvalidCommand, NoBoard
from firenegatives.families import kind
from firenegatives.graphs import Graph
from firenegatives.texts import format_position
from firenegatives.words import digits_of, is_number, write_numbers

LETTERS = "abcdefghijklmnopqrstuvwxyz"
LONGEST_NAME = 8
MOST_DIGITS = 12

# What follows the first word of a line.
SHAPES = {
    "new": ("name", "number"),
    "drop": ("name",),
    "twin": ("name", "name"),
    "names": (),
    "edge": ("name", "number", "number"),
    "cut": ("name", "number", "number"),
    "put": ("name", "number", "number"),
    "fire": ("name", "number"),
    "undo": ("name",),
    "node": ("name", "number"),
    "numbers": ("name",),
    "show": ("name",),
    "left": ("name",),
    "end": ("name",),
    "kind": ("name",),
}


class Console:
    """Boards with one player under names; at first there are none."""

    def __init__(self):
        self.boards = {}

    def run(self, line):
        """Execute a line and return a text."""
        command, values = read_line(line)
        if command == "names":
            return " ".join(sorted(list(self.boards))) if self.boards else "-"
        if command == "new":
            return self.make(values[0], values[1])
        name = values[0]
        if name not in self.boards:
            raise NoBoard(name)
        if command == "drop":
            del self.boards[name]
            return "ok"
        if command == "twin":
            self.boards[values[1]] = self.boards[name].twin()
            return "ok"
        action = ACTIONS[command]
        rest = values[1:]
        return action(self.boards[name], *rest)

    def make(self, name, size):
        """Make a board without edges, all numbers 0, under a name."""
        self.boards[name] = Board(Graph(size), [0] * size)
        return "ok"

    def __len__(self):
        return len(self.boards)


def read_line(line):
    """Return the first word of a line and the list of the names and numbers that follow; reject what is no line."""
    if not isinstance(line, str):
        raise InvalidCommand(line)
    words = line.split(" ")
    if words[0] not in SHAPES or len(words) != 1 + len(SHAPES[words[0]]):
        raise InvalidCommand(line)
    values = []
    for wanted, word in zip(SHAPES[words[0]], words[1:]):
        if wanted == "name" and is_name(word):
            values.append(word)
        elif wanted == "number" and is_number(word) and len(digits_of(word)) <= MOST_DIGITS:
            values.append(int(word))
        else:
            raise InvalidCommand(line)
    return words[0], values


def is_name(word):
    """Return whether a word is one to eight small letters."""
    return 1 <= len(word) <= LONGEST_NAME and all([letter in LETTERS for letter in word])


def add_edge(board, one, two):
    """Add an edge."""
    board.add_edge(one, two)
    return "ok"


def cut_edge(board, one, two):
    """Remove an edge."""
    board.remove_edge(one, two)
    return "ok"


def put_number(board, node, number):
    """Replace the number of a node."""
    board.put(node, number)
    return "ok"


def fire_node(board, node):
    """Fire a node."""
    board.fire(0, node)
    return "ok"


def undo_last(board):
    """Undo the last operation."""
    board.undo()
    return "ok"


def append_node(board, number):
    """Append a node and tell which one it is."""
    return str(board.add_node(number))


def tell_numbers(board):
    """Tell the position."""
    return write_numbers(board.position())


def show(board):
    """Tell the graph and the position."""
    return format_position(board.graph(), board.position()).replace("\n", "; ")


def tell_left(board):
    """Tell how many firings are left, or that it never ends, or that this is open."""
    result = board.remaining()
    return str(result[1]) if result[0] == "ends" else result[0]


def tell_end(board):
    """Tell the position that will be reached, or that it never ends, or that this is open."""
    result = board.remaining()
    return write_numbers(result[2]) if result[0] == "ends" else result[0]


def tell_kind(board):
    """Tell the kind of the graph, or of how many parts it consists."""
    count = len(board.graph().components())
    return kind(board.graph()) if count == 1 else f"parts {count}"


ACTIONS = {
    "edge": add_edge,
    "cut": cut_edge,
    "put": put_number,
    "fire": fire_node,
    "undo": undo_last,
    "node": append_node,
    "numbers": tell_numbers,
    "show": show,
    "left": tell_left,
    "end": tell_end,
    "kind": tell_kind,
}
