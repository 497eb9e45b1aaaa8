"""Boards: promise [25], and what [3], [4] (h) say of them."""

import copy
import inspect
import random
import unittest

from firenegatives.boards import Board
from firenegatives.errors import (
    InvalidEdge, InvalidLimit, InvalidNode, InvalidNumber, InvalidOperation, InvalidPlayers, InvalidPosition, NoPlayer,
    NotNegative, NothingToUndo, TooMany,
)
from firenegatives.firing import run
from firenegatives.graphs import Graph
from firenegatives.outcomes import outcome
from tests.samples import (
    GREAT, KITE, NOT_INTEGERS, complete_edges, cycle, no_nodes, no_positions, path, raised, side_by_side, star,
)

NAMES = {"fire": 2, "put": 2, "add_node": 1, "add_edge": 2, "remove_edge": 2}
NO_PLAYERS = [-1, 2, 8, GREAT, -GREAT] + NOT_INTEGERS
FORTY = complete_edges(9) + [(0, 9), (1, 9), (2, 9), (3, 9)]


class Refused(Exception):
    """What the model raises: the class and the value of the exception that [25] asks for."""


def is_node_of(size, thing):
    return isinstance(thing, int) and not isinstance(thing, bool) and 0 <= thing < size


class Model:
    """A board by the words of [25]: it keeps a whole copy of its state for each operation."""

    def __init__(self, graph, position, players):
        self.state = {"size": graph.size(), "edges": set(graph.edges()), "numbers": list(position),
                      "scores": [0] * players}
        self.history = []

    def check_nodes(self, *nodes):
        for node in nodes:
            if not is_node_of(self.state["size"], node):
                raise Refused(InvalidNode, node)

    def fire(self, player, node):
        if not is_node_of(len(self.state["scores"]), player):
            raise Refused(NoPlayer, player)
        self.check_nodes(node)
        numbers = self.state["numbers"]
        if numbers[node] >= 0:
            raise Refused(NotNegative, node)
        for edge in self.state["edges"]:
            if node in edge:
                numbers[sum(edge) - node] += numbers[node]
        numbers[node] = -numbers[node]
        self.state["scores"][player] += 1

    def put(self, node, number):
        self.check_nodes(node)
        if isinstance(number, bool) or not isinstance(number, int):
            raise Refused(InvalidNumber, number)
        self.state["numbers"][node] = number

    def add_node(self, number):
        if isinstance(number, bool) or not isinstance(number, int):
            raise Refused(InvalidNumber, number)
        if self.state["size"] == 16:
            raise Refused(TooMany, 17)
        self.state["size"] += 1
        self.state["numbers"].append(number)
        return self.state["size"] - 1

    def add_edge(self, one, two):
        self.check_nodes(one, two)
        if one == two or (min(one, two), max(one, two)) in self.state["edges"]:
            raise Refused(InvalidEdge, (one, two))
        if len(self.state["edges"]) == 40:
            raise Refused(TooMany, 41)
        self.state["edges"].add((min(one, two), max(one, two)))

    def remove_edge(self, one, two):
        self.check_nodes(one, two)
        if (min(one, two), max(one, two)) not in self.state["edges"]:
            raise Refused(InvalidEdge, (one, two))
        self.state["edges"].remove((min(one, two), max(one, two)))

    def perform(self, name, arguments):
        """Perform an operation and return its result; nothing changes where it is refused."""
        before = copy.deepcopy(self.state)
        try:
            if name == "together":
                result = [self.one_of_several(entry) for entry in arguments[0]]
                entry = ("together", list(arguments[0]))
            else:
                result = getattr(self, name)(*arguments)
                entry = (name, *arguments)
        except Refused:
            self.state = before
            raise
        self.history.append((entry, before))
        return result

    def one_of_several(self, entry):
        if not isinstance(entry, tuple) or [len(entry)] != [NAMES[name] + 1 for name in NAMES if name in entry[:1]]:
            raise Refused(InvalidOperation, entry)
        return getattr(self, entry[0])(*entry[1:])

    def play_on(self, player, limit):
        fired = []
        while len(fired) < limit and min(self.state["numbers"]) < 0:
            node = [number < 0 for number in self.state["numbers"]].index(True)
            self.perform("fire", (player, node))
            fired.append(node)
        return fired

    def undo(self):
        if not self.history:
            raise Refused(NothingToUndo, None)
        self.state = self.history.pop()[1]

    def told(self):
        graph = Graph(self.state["size"], sorted(self.state["edges"]))
        return [graph, self.state["numbers"], self.state["scores"], [entry for entry, before in self.history]]


def told(board):
    return [board.graph(), board.position(), board.scores(), board.log()]


def some_board(players=2):
    """Return a board with a log: a path of three nodes and a node alone, and firings of several players."""
    board = Board(path(3), [-1, 5, -2], players)
    board.fire(0, 0)
    board.add_node(-7)
    board.fire(players - 1, 2)
    board.put(1, -3)
    return board


def drawn_operation(chance, model):
    """Return an operation, most of the time a valid one, that a model or a board may perform."""
    size, edges = model.state["size"], sorted(model.state["edges"])
    negative = [node for node, number in enumerate(model.state["numbers"]) if number < 0]
    some_node = lambda: chance.randrange(size + (chance.random() < 0.05))
    name = chance.choice(["fire", "fire", "fire", "put", "put", "add_node", "add_edge", "add_edge", "remove_edge"])
    if name == "fire":
        node = chance.choice(negative) if negative and chance.random() < 0.8 else some_node()
        return name, chance.randrange(3 + (chance.random() < 0.05)), node
    if name == "put":
        return name, some_node(), chance.choice([chance.randint(-5, 5), -chance.randint(1, 9), -GREAT, True])
    if name == "add_node":
        return name, chance.choice([chance.randint(-5, 5), GREAT, None])
    if name == "remove_edge" and edges and chance.random() < 0.7:
        return (name,) + chance.choice(edges)[::chance.choice((1, -1))]
    return name, some_node(), some_node()


class TestExamples(unittest.TestCase):
    def test_example(self):
        board = Board(Graph(2, [(0, 1)]), [-1, -2], 2)
        self.assertIsNone(board.fire(1, 1))
        self.assertEqual([board.position(), board.remaining(), board.play_on(0, 5), board.scores(), len(board)],
                         [[-3, 2], ("ends", 2, [2, 1]), [0, 1], [2, 1], 3])


class TestInterface(unittest.TestCase):
    SIGNATURES = {
        "__init__": "(self, graph, position, players=1)", "fire": "(self, player, node)", "put": "(self, node, number)",
        "add_node": "(self, number)", "add_edge": "(self, one, two)", "remove_edge": "(self, one, two)",
        "together": "(self, operations)", "play_on": "(self, player, limit)", "undo": "(self)", "graph": "(self)",
        "position": "(self)", "scores": "(self)", "remaining": "(self, *, limit=1000)", "log": "(self)",
        "twin": "(self)", "__len__": "(self)", "__eq__": "(self, other)",
    }

    def test_methods_and_argument_names(self):
        for name, signature in self.SIGNATURES.items():
            self.assertIn(name, vars(Board))
            self.assertEqual(str(inspect.signature(getattr(Board, name))), signature, name)
        self.assertEqual(Board.__module__, "firenegatives.boards")

    def test_keywords(self):
        board = Board(players=2, position=[-1, -2], graph=path(2))
        board.fire(node=1, player=1)
        board.put(number=4, node=0)
        self.assertEqual(board.add_node(number=-7), 2)
        board.add_edge(two=0, one=2)
        board.remove_edge(two=1, one=0)
        self.assertEqual(board.together(operations=[("put", 1, -1)]), [None])
        self.assertEqual(board.play_on(limit=5, player=0), [1, 2, 0])
        self.assertEqual(board.remaining(limit=5), ("ends", 0, [3, 1, 4]))
        with self.assertRaises(TypeError):
            board.remaining(5)
        self.assertEqual(board.log(), [("fire", 1, 1), ("put", 0, 4), ("add_node", -7), ("add_edge", 2, 0),
                                       ("remove_edge", 0, 1), ("together", [("put", 1, -1)]), ("fire", 0, 1),
                                       ("fire", 0, 2), ("fire", 0, 0)])

    def test_players_may_be_omitted(self):
        self.assertEqual(Board(path(2), [1, 2]).scores(), [0])


class TestMaking(unittest.TestCase):
    def test_the_state_at_first(self):
        for players in range(1, 9):
            board = Board(KITE, [1, -2, GREAT, 0], players)
            self.assertEqual(told(board), [KITE, [1, -2, GREAT, 0], [0] * players, []])
            self.assertEqual(len(board), 0)

    def test_invalid_players(self):
        for players in [0, -1, 9, GREAT] + NOT_INTEGERS:
            self.assertIs(raised(InvalidPlayers, Board, path(2), [1, 2], players).value, players)

    def test_invalid_positions_come_first(self):
        for position in no_positions(3):
            for players in (1, 0, True, None):
                self.assertIs(raised(InvalidPosition, Board, path(3), position, players).value, position)

    def test_the_position_is_copied(self):
        position = [-1, 5, -2]
        board = Board(path(3), position)
        position[0] = 9
        position.append(1)
        self.assertEqual(board.position(), [-1, 5, -2])
        board.fire(0, 0)
        self.assertEqual(position, [9, 5, -2, 1])


class TestAgainstTheModel(unittest.TestCase):
    def check_step(self, board, model, name, arguments):
        kept = [told(board), board.twin()]
        perform = getattr(board, name)
        try:
            if name in ("undo", "play_on"):
                expected = getattr(model, name)(*arguments)
            else:
                expected = model.perform(name, arguments)
        except Refused as refused:
            error, value = refused.args
            caught = raised(error, perform, *arguments)
            if error is not NothingToUndo:
                self.assertEqual(caught.value, value)
                self.assertIs(caught.value.__class__, value.__class__)
            self.assertEqual(told(board), kept[0])
            self.assertEqual(board, kept[1])
            return 1
        self.assertEqual(perform(*arguments), expected)
        self.assertEqual(told(board), model.told())
        self.assertEqual(len(board), len(model.history))
        return 0

    def test_drawn_sequences(self):
        chance = random.Random(61)
        found = {"refused": 0, "done": 0, "together refused": 0, "together done": 0}
        for graph in [path(1), path(4), cycle(3), KITE, star(6), Graph(15), Graph(10, FORTY[:-1]), Graph(16, FORTY)]:
            for turn in range(12):
                position = [chance.randint(-3, 3) for node in range(graph.size())]
                board, model = Board(graph, position, 3), Model(graph, position, 3)
                for step in range(40):
                    choice = chance.random()
                    if choice < 0.15:
                        refused = self.check_step(board, model, "undo", ())
                    elif choice < 0.25:
                        refused = self.check_step(board, model, "play_on", (chance.randrange(3), chance.randrange(6)))
                    elif choice < 0.45:
                        entries = [drawn_operation(chance, model) for entry in range(chance.randrange(4))]
                        if chance.random() < 0.1:
                            entries.append(chance.choice([("undo",), ["put", 0, 1], ("put", 0), None]))
                        refused = self.check_step(board, model, "together",
                                                  (chance.choice((list, tuple))(entries),))
                        found[f"together {'refused' if refused else 'done'}"] += 1
                    else:
                        name, *arguments = drawn_operation(chance, model)
                        refused = self.check_step(board, model, name, tuple(arguments))
                    found["refused" if refused else "done"] += 1
                while model.history:
                    self.check_step(board, model, "undo", ())
                self.assertEqual(told(board), [graph, position, [0, 0, 0], []])
                raised(NothingToUndo, board.undo)
        self.assertGreater(min(found.values()), 100)


class TestOperations(unittest.TestCase):
    def check_refused(self, board, error, value, name, *arguments):
        """Check that an operation raises an exception with that very value, alone and together, and changes nothing."""
        before, twin = told(board), board.twin()
        caught = raised(error, getattr(board, name), *arguments)
        if isinstance(value, tuple) and error is InvalidEdge:
            self.assertEqual(caught.value, value)
            self.assertIs(caught.value.__class__, tuple)
        else:
            self.assertIs(caught.value, value)
        if name in NAMES:
            for entries in ([(name, *arguments)], [("put", 0, 99), (name, *arguments), None]):
                caught = raised(error, board.together, entries)
                self.assertEqual(repr(caught.value), repr(value))
        self.assertEqual(told(board), before)
        self.assertEqual(board, twin)

    def test_fire(self):
        board = Board(star(4), [-2, 1, 0, 3], 3)
        self.assertIsNone(board.fire(2, 0))
        self.assertEqual(told(board), [star(4), [2, -1, -2, 1], [0, 0, 1], [("fire", 2, 0)]])
        board.fire(0, 2)
        board.fire(2, 1)
        board.fire(2, 0)
        self.assertEqual(told(board), [star(4), [1, 0, 1, 0], [1, 0, 3],
                                       [("fire", 2, 0), ("fire", 0, 2), ("fire", 2, 1), ("fire", 2, 0)]])

    def test_invalid_players_nodes_and_numbers_of_a_firing(self):
        board = some_board()
        for player in NO_PLAYERS:
            for node in (1, 0, 4, True, None):
                self.check_refused(board, NoPlayer, player, "fire", player, node)
        for node in no_nodes(4):
            self.check_refused(board, InvalidNode, node, "fire", 1, node)
        for node in (0, 2):
            self.check_refused(board, NotNegative, node, "fire", 1, node)
        board.put(3, 0)
        self.check_refused(board, NotNegative, 3, "fire", 0, 3)

    def test_put(self):
        board = some_board()
        for number in (0, -1, GREAT, -GREAT):
            self.assertIsNone(board.put(3, number))
            self.assertEqual(board.position(), [1, -3, 2, number])
        self.assertEqual(board.log()[-1], ("put", 3, -GREAT))
        for node in no_nodes(4):
            for number in (1, None, True):
                self.check_refused(board, InvalidNode, node, "put", node, number)
        for number in NOT_INTEGERS:
            self.check_refused(board, InvalidNumber, number, "put", 0, number)

    def test_add_node(self):
        board = Board(Graph(14, [(0, 13)]), [-1] * 14)
        self.assertEqual([board.add_node(0), board.add_node(-GREAT)], [14, 15])
        self.assertEqual(board.graph(), Graph(16, [(0, 13)]))
        self.assertEqual(board.position(), [-1] * 14 + [0, -GREAT])
        for number in NOT_INTEGERS:
            self.check_refused(board, InvalidNumber, number, "add_node", number)
            self.check_refused(some_board(), InvalidNumber, number, "add_node", number)
        for number in (0, -1, GREAT):
            self.check_refused(board, TooMany, 17, "add_node", number)
        board.undo()
        self.assertEqual(board.add_node(3), 15)

    def test_add_edge(self):
        board = Board(Graph(4, [(1, 2)]), [-1, -1, -1, -1])
        self.assertIsNone(board.add_edge(3, 0))
        board.add_edge(0, 1)
        self.assertEqual(board.graph(), Graph(4, [(0, 1), (0, 3), (1, 2)]))
        self.assertEqual(board.log(), [("add_edge", 3, 0), ("add_edge", 0, 1)])
        board.fire(0, 0)
        self.assertEqual(board.position(), [1, -2, -1, -2])
        for one, two in [(0, 0), (3, 3), (1, 2), (2, 1), (0, 3), (3, 0), (1, 0)]:
            self.check_refused(board, InvalidEdge, (one, two), "add_edge", one, two)
        for name in ("add_edge", "remove_edge"):
            for node in no_nodes(4):
                for other in (0, 3, 4, None, True, node):
                    self.check_refused(board, InvalidNode, node, name, node, other)
                self.check_refused(board, InvalidNode, node, name, 2, node)

    def test_40_edges(self):
        board = Board(Graph(10, FORTY[:-1]), [0] * 10)
        board.add_edge(*FORTY[-1])
        self.assertEqual(len(board.graph()), 40)
        self.check_refused(board, TooMany, 41, "add_edge", 9, 8)
        self.check_refused(board, InvalidEdge, (9, 0), "add_edge", 9, 0)
        self.check_refused(board, InvalidEdge, (9, 9), "add_edge", 9, 9)
        board.remove_edge(1, 0)
        board.add_edge(9, 8)
        self.assertEqual(len(board.graph()), 40)
        self.check_refused(board, TooMany, 41, "add_edge", 0, 1)

    def test_remove_edge(self):
        board = Board(cycle(4), [-1, -1, -1, -1])
        self.assertIsNone(board.remove_edge(3, 0))
        self.assertEqual(board.graph(), path(4))
        self.assertEqual(board.log(), [("remove_edge", 3, 0)])
        board.fire(0, 0)
        self.assertEqual(board.position(), [1, -2, -1, -1])
        for one, two in [(0, 0), (2, 2), (0, 3), (3, 0), (0, 2), (3, 1)]:
            self.check_refused(board, InvalidEdge, (one, two), "remove_edge", one, two)
        for one, two in [(0, 1), (2, 1), (2, 3)]:
            board.remove_edge(one, two)
        self.assertEqual(board.graph(), Graph(4))


class TestTogether(unittest.TestCase):
    ENTRIES = [("fire", 1, 0), ("add_node", -4), ("add_edge", 3, 2), ("put", 1, -9), ("remove_edge", 1, 0),
               ("fire", 0, 3)]

    def test_lists_and_tuples(self):
        for entries in (self.ENTRIES, tuple(self.ENTRIES)):
            board, single = Board(path(3), [-1, 5, -2], 2), Board(path(3), [-1, 5, -2], 2)
            results = [getattr(single, name)(*arguments) for name, *arguments in entries]
            self.assertEqual(board.together(entries), results)
            self.assertEqual(results, [None, 3, None, None, None, None])
            self.assertEqual(board, single)
            self.assertEqual(board.log(), [("together", self.ENTRIES)])
            self.assertEqual([len(board), len(single)], [1, 6])
            board.undo()
            self.assertEqual(told(board), [path(3), [-1, 5, -2], [0, 0], []])

    def test_empty_lists_are_operations(self):
        board = some_board()
        before = told(board)
        for entries in ([], ()):
            self.assertEqual(board.together(entries), [])
        self.assertEqual(told(board), before[:3] + [before[3] + [("together", []), ("together", [])]])
        self.assertEqual(len(board), 6)
        board.undo()
        board.undo()
        self.assertEqual(told(board), before)

    def test_operations_see_what_came_before(self):
        board = Board(path(1), [-1])
        entries = [("add_node", -2), ("add_edge", 0, 1), ("fire", 0, 0), ("fire", 0, 1), ("fire", 0, 0)]
        self.assertEqual(board.together(entries), [1, None, None, None, None])
        self.assertEqual(told(board)[:3], [path(2), [2, 1], [3]])
        raised(NotNegative, board.together, [("put", 0, -1), ("fire", 0, 0), ("fire", 0, 0)])

    def test_no_list_and_no_tuple(self):
        board = some_board()
        before = told(board)
        for operations in [None, True, 0, "fire", "", b"", {}, {("put", 0, 1): 1}, {("put", 0, 1)},
                           iter([("put", 0, 1)]), object(), len, ("put" for turn in range(1)), 1.5]:
            self.assertIs(raised(InvalidOperation, board.together, operations).value, operations)
        self.assertEqual(told(board), before)

    def test_entries_that_are_no_operations(self):
        wrong = [None, True, 0, "put", b"put", [], {}, {"put"}, (), ("put",), ("put", 0), ("put", 0, 1, 2),
                 ["put", 0, 1], ("fire", 0), ("fire", 0, 0, 0), ("add_node",), ("add_node", 1, 2), ("add_edge", 0),
                 ("add_edge", 0, 2, 1), ("remove_edge", 0), ("remove_edge", 0, 1, 2), ("play_on", 0, 1),
                 ("together", []), ("undo",), ("twin",), ("position",), ("take_back", 0, 0), ("drop_node",),
                 ("carry_out", ("put", 0, 1)), ("Put", 0, 1), ("", 0, 1), ("__init__", 0, 1), (None, 0, 1), (0, 0, 1),
                 (("put",), 0, 1), (["put"], 0, 1), ({}, 0, 1), (b"put", 0, 1), ("put ", 0, 1), (True, 1), object(),
                 len, ("log",), ("remaining",)]
        for entry in wrong:
            for place in range(3):
                board = some_board()
                before, twin = told(board), board.twin()
                entries = [("put", 0, 4), ("add_node", 1)]
                entries.insert(place, entry)
                for operations in (entries, tuple(entries)):
                    self.assertIs(raised(InvalidOperation, board.together, operations).value, entry)
                    self.assertEqual(told(board), before)
                    self.assertEqual(board, twin)

    def test_a_failing_operation_at_each_place(self):
        failing = [(("fire", 2, 0), NoPlayer, 2), (("fire", 0, True), InvalidNode, True),
                   (("fire", 0, 0), NotNegative, 0), (("put", 9, 1), InvalidNode, 9),
                   (("put", 0, None), InvalidNumber, None), (("add_node", False), InvalidNumber, False),
                   (("add_edge", 1, 0), InvalidEdge, (1, 0)), (("remove_edge", 2, 2), InvalidEdge, (2, 2)),
                   (("remove_edge", -1, 2), InvalidNode, -1)]
        for entry, error, value in failing:
            for place in range(4):
                board = some_board()
                before = told(board)
                entries = [("put", 2, 7), ("add_node", 1), ("remove_edge", 2, 1)]
                entries.insert(place, entry)
                self.assertEqual(raised(error, board.together, entries + [None]).value, value)
                self.assertEqual(told(board), before)
                board.undo()
                self.assertEqual(board.position(), [1, 2, 2, -7])

    def test_the_first_wrong_entry_counts(self):
        board = some_board()
        self.assertEqual(raised(NotNegative, board.together, [("fire", 0, 0), None]).value, 0)
        self.assertIs(raised(InvalidOperation, board.together, [("put", 0, 1), None, ("fire", 0, 0)]).value, None)

    def test_bounds(self):
        board = Board(Graph(15), [-1] * 15)
        self.assertEqual(raised(TooMany, board.together, [("add_node", 1), ("add_node", 1)]).value, 17)
        self.assertEqual(told(board), [Graph(15), [-1] * 15, [0], []])
        board = Board(Graph(10, FORTY[:-1]), [0] * 10)
        self.assertEqual(raised(TooMany, board.together, [("add_edge", 9, 3), ("add_edge", 9, 4)]).value, 41)
        self.assertEqual(board.graph(), Graph(10, FORTY[:-1]))
        board.together([("add_edge", 9, 3), ("remove_edge", 0, 1), ("add_edge", 9, 4)])
        self.assertEqual(len(board.graph()), 40)

    def test_what_is_passed_is_copied(self):
        board = Board(path(2), [-1, -2])
        entries = [("put", 0, 5), ("add_node", 1)]
        results = board.together(entries)
        entries.append(("put", 1, 1))
        results.append(7)
        self.assertEqual(board.log(), [("together", [("put", 0, 5), ("add_node", 1)])])


class TestPlayOn(unittest.TestCase):
    def test_against_run(self):
        for graph, position in [(path(2), [-1, -2]), (path(6), [-1] * 6), (cycle(3), [20, 1, -20]),
                                (KITE, [-1, 0, 0, 0]),
                                (side_by_side(path(2), star(5)), [-1, 3, -2, 1, 1, 4, 0]), (path(3), [-GREAT, 1, 2])]:
            for limit in (0, 1, 2, 3, 50):
                board = Board(graph, position, 3)
                reached, nodes = run(graph, position, limit)
                self.assertEqual(board.play_on(2, limit), nodes)
                entries = [("fire", 2, node) for node in nodes]
                self.assertEqual(told(board), [graph, reached, [0, 0, len(nodes)], entries])
                self.assertEqual(len(board), len(nodes))

    def test_undone_one_by_one(self):
        board = Board(path(3), [-1, 0, -2], 2)
        board.fire(1, 2)
        nodes = board.play_on(0, 10)
        self.assertGreater(len(nodes), 2)
        for count in range(len(nodes) - 1, -1, -1):
            board.undo()
            self.assertEqual(board.position(), run(path(3), [-1, -2, 2], count)[0])
            self.assertEqual([board.scores(), len(board)], [[count, 1], count + 1])

    def test_limits(self):
        board = Board(cycle(3), [1, 0, -1])
        self.assertEqual(len(board.play_on(0, 10000)), 10000)
        self.assertEqual([len(board), board.scores()], [10000, [10000]])
        self.assertEqual(board.position(), run(cycle(3), [1, 0, -1], 10000)[0])
        self.assertEqual(board.play_on(0, 0), [])
        self.assertEqual(len(board), 10000)

    def test_positions_that_have_ended(self):
        board = Board(cycle(3), [1, 0, 0])
        self.assertEqual(board.play_on(0, 100), [])
        self.assertEqual([len(board), board.scores()], [0, [0]])

    def test_invalid_players_and_limits(self):
        board = some_board()
        before = told(board)
        for player in NO_PLAYERS:
            for limit in (0, 5, -1, None):
                self.assertIs(raised(NoPlayer, board.play_on, player, limit).value, player)
        for limit in [-1, 10001, GREAT, -GREAT] + NOT_INTEGERS:
            self.assertIs(raised(InvalidLimit, board.play_on, 1, limit).value, limit)
            self.assertIs(raised(InvalidLimit, Board(path(1), [0]).play_on, 0, limit).value, limit)
        self.assertEqual(told(board), before)


class TestUndo(unittest.TestCase):
    def test_each_operation(self):
        several = [("fire", 1, 1), ("add_node", -1), ("add_edge", 4, 1), ("put", 1, 5), ("put", 1, 6),
                   ("remove_edge", 1, 4), ("remove_edge", 0, 1), ("fire", 0, 4)]
        for name, arguments in [("fire", (1, 1)), ("fire", (0, 3)), ("put", (1, GREAT)), ("put", (1, -3)),
                                ("add_node", (-5,)), ("add_edge", (3, 0)), ("remove_edge", (2, 1)),
                                ("together", (several,))]:
            board = some_board()
            before, twin = told(board), board.twin()
            getattr(board, name)(*arguments)
            self.assertEqual(len(board), 5)
            self.assertIsNone(board.undo())
            self.assertEqual(told(board), before)
            self.assertEqual(board, twin)
            self.assertEqual(len(board), 4)

    def test_down_to_nothing(self):
        board = some_board()
        board.together([("add_edge", 3, 1), ("fire", 0, 1)])
        board.play_on(1, 3)
        while len(board):
            board.undo()
        self.assertEqual(told(board), [path(3), [-1, 5, -2], [0, 0], []])
        self.assertEqual(raised(NothingToUndo, board.undo).args, ())
        self.assertEqual(told(board), [path(3), [-1, 5, -2], [0, 0], []])
        board.fire(1, 2)
        self.assertEqual(board.log(), [("fire", 1, 2)])

    def test_undone_operations_leave_no_trace(self):
        board, other = Board(path(3), [-1, 5, -2], 2), Board(path(3), [-1, 5, -2], 2)
        for name, arguments in [("fire", (0, 0)), ("put", (1, -8)), ("add_node", (4,)), ("remove_edge", (0, 1))]:
            getattr(board, name)(*arguments)
        for turn in range(3):
            board.undo()
        board.fire(1, 2)
        other.fire(0, 0)
        other.fire(1, 2)
        self.assertEqual(told(board), told(other))
        self.assertEqual(board.remaining(), other.remaining())


class TestState(unittest.TestCase):
    def test_what_was_returned_does_not_change(self):
        board = some_board()
        kept = told(board)
        expected = [Graph(4, [(0, 1), (1, 2)]), [1, -3, 2, -7], [1, 1],
                    [("fire", 0, 0), ("add_node", -7), ("fire", 1, 2), ("put", 1, -3)]]
        self.assertEqual(kept, expected)
        board.fire(0, 1)
        board.together([("add_edge", 3, 0), ("add_node", 1)])
        board.remove_edge(0, 1)
        board.put(0, -1)
        board.play_on(1, 5)
        self.assertEqual(kept, expected)
        self.assertEqual(kept[0].neighbours(0), [1])

    def test_changing_what_was_returned_changes_no_board(self):
        board = some_board()
        board.together([("put", 0, 1), ("add_node", 2)])
        before, twin = copy.deepcopy(told(board)), board.twin()
        graph, position, scores, log = told(board)
        graph.edges().clear()
        graph.neighbours(1).clear()
        position[0] = 99
        scores[0] = 99
        log[-1][1].append(("put", 0, 3))
        log[-1][1][0] = None
        log.clear()
        board.remaining()[1:][-1].clear()
        self.assertEqual(told(board), before)
        self.assertEqual(board, twin)
        board.undo()
        self.assertEqual(told(board)[1], [1, -3, 2, -7])

    def test_remaining(self):
        chance = random.Random(62)
        for graph in (path(4), cycle(3), KITE, star(5), side_by_side(KITE, path(2)), Graph(3)):
            for turn in range(6):
                board = Board(graph, [chance.randint(-3, 4) for node in range(graph.size())], 2)
                for step in range(6):
                    self.assertEqual(board.remaining(), outcome(board.graph(), board.position()))
                    for limit in (0, 1, 10000):
                        self.assertEqual(board.remaining(limit=limit),
                                         outcome(board.graph(), board.position(), limit=limit))
                    board.put(0, chance.randint(-2, 2))
                    board.play_on(1, 1)
        for limit in [-1, 10001, GREAT] + NOT_INTEGERS:
            self.assertIs(raised(InvalidLimit, some_board().remaining, limit=limit).value, limit)

    def test_remaining_after_each_change(self):
        board = Board(path(3), [-1, -1, -1])
        self.assertEqual(board.remaining(), ("ends", 6, [1, 1, 1]))
        board.fire(0, 1)
        self.assertEqual(board.remaining(), ("ends", 5, [1, 1, 1]))
        board.add_edge(0, 2)
        self.assertEqual(board.remaining()[0], "never")
        board.put(1, 5)
        self.assertEqual(board.remaining(), outcome(cycle(3), [-2, 5, -2]))
        board.undo()
        board.undo()
        self.assertEqual(board.remaining(), ("ends", 5, [1, 1, 1]))
        board.play_on(0, 5)
        self.assertEqual(board.remaining(), ("ends", 0, [1, 1, 1]))

    def test_the_limit_of_remaining_is_1000(self):
        self.assertEqual(Board(KITE, [501, 1, -501, 10 ** 9]).remaining(), ("open", 1000))
        self.assertEqual(Board(KITE, [500, 1, -500, 10 ** 9]).remaining()[:2], ("ends", 999))

    def test_equal_boards(self):
        board = some_board()
        other = Board(Graph(4, [(1, 2), (0, 1)]), [1, -3, 2, -7], 2)
        self.assertFalse(board == other)
        other.put(0, -1)
        other.put(2, -1)
        other.fire(0, 0)
        other.fire(1, 2)
        for node, number in enumerate(board.position()):
            other.put(node, number)
        self.assertTrue(board == other)
        self.assertFalse(board != other)
        self.assertNotEqual(board.log(), other.log())

    def test_boards_that_are_not_equal(self):
        board = Board(path(3), [1, 2, 3], 2)
        self.assertTrue(board == Board(path(3), [1, 2, 3], 2))
        for other in (Board(path(3), [1, 2, 3], 1), Board(path(3), [1, 2, 3], 3), Board(path(3), [1, 2, 4], 2),
                      Board(cycle(3), [1, 2, 3], 2), Board(Graph(3), [1, 2, 3], 2), Board(path(4), [1, 2, 3, 0], 2),
                      Board(Graph(3, [(0, 1), (0, 2)]), [1, 2, 3], 2)):
            self.assertFalse(board == other)
            self.assertTrue(board != other)
        one, two = Board(Graph(2), [-1, -1], 2), Board(Graph(2), [-1, -1], 2)
        one.fire(0, 0)
        two.fire(1, 0)
        self.assertFalse(one == two)

    def test_other_kinds_of_values(self):
        board = Board(path(2), [1, 2])
        for thing in [path(2), [1, 2], (path(2), [1, 2], [0]), [path(2), [1, 2], [0]], board.state] + NOT_INTEGERS:
            self.assertFalse(board == thing)
            self.assertTrue(board != thing)


class TestTwin(unittest.TestCase):
    def test_the_same_at_first(self):
        board = some_board(3)
        board.together([("add_edge", 3, 0), ("fire", 2, 1)])
        twin = board.twin()
        self.assertIsNot(twin, board)
        self.assertIs(twin.__class__, Board)
        self.assertEqual(board, twin)
        self.assertEqual(told(board), told(twin))
        while len(board):
            board.undo()
            twin.undo()
            self.assertEqual(told(board), told(twin))
        self.assertEqual(told(twin), [path(3), [-1, 5, -2], [0, 0, 0], []])
        raised(NothingToUndo, twin.undo)

    def test_independent(self):
        for first, second in ((0, 1), (1, 0)):
            board = some_board()
            board.together([("put", 0, -1), ("add_node", 3)])
            pair = [board, board.twin()]
            kept = told(pair[second])
            pair[first].fire(0, 0)
            pair[first].together([("remove_edge", 0, 1), ("put", 2, 9)])
            pair[first].add_node(1)
            pair[first].add_edge(5, 0)
            pair[first].play_on(1, 4)
            self.assertEqual(told(pair[second]), kept)
            while len(pair[first]):
                pair[first].undo()
            self.assertEqual(told(pair[second]), kept)
            pair[second].undo()
            self.assertEqual(told(pair[second])[1], [1, -3, 2, -7])
            self.assertEqual(told(pair[first]), [path(3), [-1, 5, -2], [0, 0], []])


if __name__ == "__main__":
    unittest.main()
