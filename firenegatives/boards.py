"""Boards: a graph, a position and the scores of players, which change by operations that can be undone."""

from firenegatives.checks import check_limit, check_player, check_position, is_integer_within
from firenegatives.errors import InvalidOperation, InvalidPlayers, NothingToUndo
from firenegatives.firing import first_negative
from firenegatives.operations import State, check_operation, perform
from firenegatives.outcomes import outcome

MOST_PLAYERS = 8


class Board:
    """A graph, a position and the scores of players, who are numbered from 0."""

    def __init__(self, graph, position, players=1):
        check_position(graph.size(), position)
        if not is_integer_within(players, 1, MOST_PLAYERS):
            raise InvalidPlayers(players)
        self.state = State(graph, position, [0] * players)
        # Each operation that is not undone, with the list of what undoes it.
        self.past = []

    def fire(self, player, node):
        """Fire a node; the player's score grows by 1."""
        self.carry_out(("fire", player, node))

    def put(self, node, number):
        """Replace the number of a node."""
        self.carry_out(("put", node, number))

    def add_node(self, number):
        """Append a node without edges and return it."""
        return self.carry_out(("add_node", number))

    def add_edge(self, one, two):
        """Add an edge."""
        self.carry_out(("add_edge", one, two))

    def remove_edge(self, one, two):
        """Remove an edge."""
        self.carry_out(("remove_edge", one, two))

    def together(self, operations):
        """Perform a list or tuple of operations as one, all or none, and return the list of their results."""
        if not isinstance(operations, (list, tuple)):
            raise InvalidOperation(operations)
        trial = self.state.copied()
        results = []
        undoing = []
        for operation in operations:
            check_operation(operation)
            result, inverse = perform(trial, operation)
            results.append(result)
            undoing.append(inverse)
        self.state = trial
        self.past.append((("together", list(operations)), undoing[::-1]))
        return results

    def play_on(self, player, limit):
        """Fire the smallest negative node for a player until none is left or limit firings are done.

        Return the fired nodes; each firing is an operation of its own.
        """
        check_player(len(self.state.points), player)
        check_limit(limit)
        fired = []
        while len(fired) < limit:
            node = first_negative(self.state.numbers)
            if node is None:
                break
            self.fire(player, node)
            fired.append(node)
        return fired

    def undo(self):
        """Undo the last operation that is not undone; operations performed together are undone together."""
        if not self.past:
            raise NothingToUndo()
        operation, undoing = self.past.pop()
        for inverse in undoing:
            perform(self.state, inverse)

    def graph(self):
        """Return the graph; it does not change later."""
        return self.state.drawn

    def position(self):
        """Return the position."""
        return list(self.state.numbers)

    def scores(self):
        """Return the list of the players' scores."""
        return list(self.state.points)

    def remaining(self, *, limit=1000):
        """Return what outcome returns for the present graph and position."""
        return outcome(self.state.drawn, self.state.numbers, limit=limit)

    def log(self):
        """Return the operations that are not undone, as tuples of the name and the arguments."""
        return [written(operation) for operation, undoing in self.past]

    def twin(self):
        """Return an independent board with the same state, log and undo history."""
        other = Board(self.state.drawn, self.state.numbers, len(self.state.points))
        other.state = self.state.copied()
        other.past = list(self.past)
        return other

    def carry_out(self, operation):
        """Perform one operation, keep what undoes it, and return its result."""
        result, inverse = perform(self.state, operation)
        self.past.append((operation, [inverse]))
        return result

    def __len__(self):
        return len(self.past)

    def __eq__(self, other):
        return (isinstance(other, Board) and self.state.drawn == other.state.drawn
                and self.state.numbers == other.state.numbers and self.state.points == other.state.points)


def written(operation):
    """Return an operation as a log shows it, with a list of its own if it consists of several."""
    if operation[0] == "together":
        return "together", list(operation[1])
    return operation
