"""Texts of positions: how they are formatted and parsed."""

from firenegatives.checks import check_position, is_integer_within
from firenegatives.errors import InvalidText
from firenegatives.graphs import Graph, MOST_EDGES, MOST_NODES, is_edge
from firenegatives.words import read_numbers, write_numbers


def format_position(graph, position):
    """Return a text of rows for a graph and a position."""
    check_position(graph.size(), position)
    rows = [f"graph {graph.size()}"]
    rows.extend([f"edge {write_numbers(edge)}" for edge in graph.edges()])
    rows.append(f"numbers {write_numbers(position)}")
    return "\n".join(rows)


def parse_position(text):
    """Return a tuple of the graph and the position of a text; reject it with the number of its first wrong row."""
    if not isinstance(text, str):
        raise InvalidText(0)
    rows = [row.split(" ") for row in text.split("\n")]
    size = size_in(rows[0])
    if size is None:
        raise InvalidText(0)
    edges = []
    place = 1
    while place < len(rows) and rows[place][0] != "numbers":
        edge = edge_in(rows[place], size)
        if edge is None or edge in edges or len(edges) == MOST_EDGES:
            raise InvalidText(place)
        edges.append(edge)
        place += 1
    if place == len(rows):
        raise InvalidText(place)
    position = read_numbers(rows[place][1:])
    if position is None or len(position) != size:
        raise InvalidText(place)
    if place + 1 < len(rows):
        raise InvalidText(place + 1)
    return Graph(size, edges), position


def size_in(words):
    """Return the size in the words of a row, or None if they are none of a first row."""
    numbers = read_numbers(words[1:])
    if words[0] != "graph" or numbers is None or len(numbers) != 1:
        return None
    return numbers[0] if is_integer_within(numbers[0], 1, MOST_NODES) else None


def edge_in(words, size):
    """Return the edge in the words of a row, the smaller node first, or None if they are none of such a graph."""
    numbers = read_numbers(words[1:])
    if words[0] != "edge" or numbers is None or not is_edge(size, tuple(numbers)):
        return None
    return min(numbers), max(numbers)
