"""The operations of a board: what each of them changes, what it returns, and what undoes it."""

from firenegatives.checks import check_node, check_number, check_player
from firenegatives.errors import InvalidEdge, InvalidOperation, NotNegative, TooMany
from firenegatives.firing import flip_in_place
from firenegatives.graphs import Graph, MOST_NODES

# How many arguments each operation takes that may be performed together with others.
ARGUMENTS = {"fire": 2, "put": 2, "add_node": 1, "add_edge": 2, "remove_edge": 2}


class State:
    """A graph, the numbers of its nodes and the scores of the players, without what led there."""

    def __init__(self, drawn, numbers, points):
        self.drawn = drawn
        self.numbers = list(numbers)
        self.points = list(points)

    def copied(self):
        """Return an independent state that is equal."""
        return State(self.drawn, self.numbers, self.points)


def check_operation(thing):
    """Reject what is not a tuple of the name of an operation and as many arguments as it takes."""
    if not isinstance(thing, tuple) or len(thing) == 0 or not isinstance(thing[0], str):
        raise InvalidOperation(thing)
    if thing[0] not in ARGUMENTS or len(thing) != 1 + ARGUMENTS[thing[0]]:
        raise InvalidOperation(thing)


def perform(state, operation):
    """Perform an operation, a tuple of its name and its arguments, on a state that the caller owns.

    Return its result and the operation that undoes it. If it raises an exception, the state does not change.
    """
    action = ACTIONS[operation[0]]
    values = operation[1:]
    return action(state, *values)


def fire_node(state, player, node):
    """Fire a node for a player."""
    check_player(len(state.points), player)
    check_node(state.drawn.size(), node)
    if state.numbers[node] >= 0:
        raise NotNegative(node)
    flip_in_place(state.numbers, node, state.drawn.neighbours(node))
    state.points[player] += 1
    return None, ("take_back", player, node)


def take_back(state, player, node):
    """Undo the firing of a node."""
    flip_in_place(state.numbers, node, state.drawn.neighbours(node))
    state.points[player] -= 1
    return None, ("fire", player, node)


def put_number(state, node, number):
    """Replace the number of a node."""
    check_node(state.drawn.size(), node)
    check_number(number)
    before = state.numbers[node]
    state.numbers[node] = number
    return None, ("put", node, before)


def append_node(state, number):
    """Append a node without edges; its number among the nodes is the result."""
    check_number(number)
    size = state.drawn.size()
    if size == MOST_NODES:
        raise TooMany(size + 1)
    state.drawn = Graph(size + 1, state.drawn.edges())
    state.numbers.append(number)
    return size, ("drop_node",)


def drop_node(state):
    """Undo the appending of the last node, which has no edges any more."""
    state.drawn = Graph(state.drawn.size() - 1, state.drawn.edges())
    number = state.numbers.pop()
    return None, ("add_node", number)


def join_nodes(state, one, two):
    """Add an edge."""
    edge = checked_edge(state, one, two)
    edges = state.drawn.edges()
    if one == two or edge in edges:
        raise InvalidEdge((one, two))
    # A graph rejects one edge too many by itself.
    state.drawn = Graph(state.drawn.size(), edges + [edge])
    return None, ("remove_edge", one, two)


def part_nodes(state, one, two):
    """Remove an edge."""
    edge = checked_edge(state, one, two)
    edges = state.drawn.edges()
    if edge not in edges:
        raise InvalidEdge((one, two))
    state.drawn = Graph(state.drawn.size(), [other for other in edges if other != edge])
    return None, ("add_edge", one, two)


def checked_edge(state, one, two):
    """Return two nodes as a graph returns an edge; reject what is not a node."""
    check_node(state.drawn.size(), one)
    check_node(state.drawn.size(), two)
    return min(one, two), max(one, two)


ACTIONS = {
    "fire": fire_node,
    "take_back": take_back,
    "put": put_number,
    "add_node": append_node,
    "drop_node": drop_node,
    "add_edge": join_nodes,
    "remove_edge": part_nodes,
}
