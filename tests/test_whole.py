"""What the document says of the whole program: the interface, and the general rules [3]."""

import ast
import copy
import importlib
import inspect
import pathlib
import unittest

from firenegatives.boards import Board
from firenegatives.console import Console
from firenegatives.graphs import Graph
from tests.samples import KITE, cycle, path, side_by_side

ROOT = pathlib.Path(__file__).resolve().parent.parent / "firenegatives"
INTERFACE = {
    "graphs": {"Graph": "(size, edges=())"},
    "firing": {"is_position": "(graph, thing)", "negatives": "(graph, position)", "has_ended": "(graph, position)",
               "flip": "(graph, position, node)", "fire": "(graph, position, node)",
               "play": "(graph, position, nodes)", "is_play": "(graph, position, thing)",
               "is_complete": "(graph, position, thing)", "run": "(graph, position, limit)",
               "totals_of": "(graph, position, nodes)"},
    "diamonds": {"meet": "(graph, position, one, two)", "complete_with": "(graph, position, nodes)"},
    "forms": {"unit": "(graph, node)", "value": "(graph, form, position)", "image": "(graph, form, node)",
              "closed_list": "(graph)", "is_closed_list": "(graph, thing)", "negative_forms": "(graph, position)"},
    "lines": {"path_steps": "(numbers)", "path_end": "(numbers)", "cycle_steps": "(numbers)", "cycle_end": "(numbers)"},
    "families": {"kind": "(graph)", "classify": "(graph)", "is_certificate": "(graph, thing)"},
    "jumps": {"is_jump": "(graph, thing)", "jumped": "(graph, position, jump)", "settle": "(graph, position)",
              "is_settled": "(graph, position, thing)"},
    "lengths": {"steps": "(graph, position)", "totals": "(graph, position)"},
    "outcomes": {"is_never": "(graph, position, thing)", "outcome": "(graph, position, *, limit=1000)"},
    "rounds": {"fire_set": "(graph, position, nodes)", "rounds": "(graph, position, limit)",
               "fewest_rounds": "(graph, position)"},
    "backwards": {"starts": "(graph, end, length)", "start_count": "(graph, end, length)",
                  "orders": "(graph, position)"},
    "links": {"canonical": "(graph, position)", "linked": "(graph, position, other)",
              "link": "(graph, position, other)", "is_link": "(graph, position, other, thing)"},
    "boards": {"Board": "(graph, position, players=1)"},
    "unions": {"union": "(graph, other)", "renumbered": "(graph, order)",
               "renumbered_position": "(graph, position, order)"},
    "texts": {"format_position": "(graph, position)", "parse_position": "(text)"},
    "console": {"Console": "()"},
}
METHODS = {
    "Graph": {"size": "()", "edges": "()", "neighbours": "(node)", "components": "()", "__len__": "()",
              "__eq__": "(other)", "__repr__": "()"},
    "Board": {"fire": "(player, node)", "put": "(node, number)", "add_node": "(number)", "add_edge": "(one, two)",
              "remove_edge": "(one, two)", "together": "(operations)", "play_on": "(player, limit)", "undo": "()",
              "graph": "()", "position": "()", "scores": "()", "remaining": "(*, limit=1000)", "log": "()",
              "twin": "()", "__len__": "()", "__eq__": "(other)"},
    "Console": {"run": "(line)", "__len__": "()"},
}
TRIANGLE = cycle(3)
MIXED = side_by_side(path(2), TRIANGLE)
NUMBERS = [-1, -2, 9, 1, -9]
FORMS = [[0, 1], [1, 0], [1, 1]]
# Arguments with which each function returns a result; where there is a choice, one with lists in it.
CALLS = {
    "is_position": (TRIANGLE, [1, 2, 3]), "negatives": (MIXED, NUMBERS), "has_ended": (MIXED, NUMBERS),
    "flip": (MIXED, NUMBERS, 1), "fire": (MIXED, NUMBERS, 1), "play": (path(2), [-1, -2], [1, 0]),
    "is_play": (path(2), [-1, -2], [1, 0]), "is_complete": (path(2), [-1, -2], [1, 0]), "run": (MIXED, NUMBERS, 50),
    "totals_of": (path(2), [-1, -2], [1, 0]), "meet": (path(2), [-1, -2], 0, 1),
    "complete_with": (path(2), [-1, -2], [1]), "unit": (MIXED, 2), "value": (TRIANGLE, [1, 0, 2], [3, 4, 5]),
    "image": (TRIANGLE, [1, 0, 2], 1), "closed_list": (path(3),), "is_closed_list": (path(2), FORMS),
    "negative_forms": (path(2), [-1, -2]), "path_steps": ([-1, -2, 5],), "path_end": ([-1, -2, 5],),
    "cycle_steps": ([5, 1, -5],), "cycle_end": ([5, 1, -5],), "kind": (TRIANGLE,), "classify": (TRIANGLE,),
    "is_certificate": (path(2), ("finite", FORMS)), "is_jump": (MIXED, [0, 0, 1, 2, 3]),
    "jumped": (MIXED, NUMBERS, [0, 0, 1, 2, 3]), "settle": (MIXED, NUMBERS),
    "is_settled": (TRIANGLE, [30, 1, -30], ([-10, 0, 10], [], [0, 1, 0])), "steps": (MIXED, NUMBERS),
    "totals": (MIXED, NUMBERS), "is_never": (KITE, [-1, 0, 0, 0], ([], [1, 1, 1, 0])), "outcome": (MIXED, NUMBERS),
    "fire_set": (MIXED, NUMBERS, [4, 1]), "rounds": (MIXED, NUMBERS, 50), "fewest_rounds": (MIXED, NUMBERS),
    "starts": (MIXED, [1, 0, 2, 0, 1], 3), "start_count": (MIXED, [1, 0, 2, 0, 1], 3), "orders": (MIXED, NUMBERS),
    "canonical": (MIXED, NUMBERS), "linked": (TRIANGLE, [1, 0, -1], [-1, 1, 0]),
    "link": (TRIANGLE, [1, 0, -1], [-1, 1, 0]), "is_link": (TRIANGLE, [1, 0, -1], [-1, 1, 0], [0]),
    "union": (path(2), TRIANGLE), "renumbered": (TRIANGLE, [2, 0, 1]),
    "renumbered_position": (TRIANGLE, [5, 6, 7], [2, 0, 1]), "format_position": (MIXED, NUMBERS),
    "parse_position": ("graph 2\nedge 1 0\nnumbers 3 -4",),
}
# Calls whose exceptions hold a list that the package made itself.
FAILING = [("kind", (MIXED,)), ("classify", (MIXED,)), ("is_certificate", (MIXED, None)),
           ("complete_with", (TRIANGLE, [-1, 0, 0], [0])), ("complete_with", (KITE, [1000, 1, -1000, 0], [2])),
           ("settle", (KITE, [0, 0, 0, 0])), ("is_settled", (KITE, [0, 0, 0, 0], None)),
           ("steps", (KITE, [0, 0, 0, 0])), ("totals", (KITE, [0, 0, 0, 0])), ("start_count", (KITE, [0, 0, 0, 0], 1)),
           ("canonical", (KITE, [0, 0, 0, 0])), ("linked", (KITE, [0, 0, 0, 0], [0, 0, 0, 0])),
           ("link", (KITE, [0, 0, 0, 0], [0, 0, 0, 0]))]


def found(name):
    """Return the function of that name of the interface."""
    for file, names in INTERFACE.items():
        if name in names:
            return getattr(importlib.import_module(f"firenegatives.{file}"), name)
    raise AssertionError(name)


def spoil(thing):
    """Change all lists and dicts in a thing."""
    if isinstance(thing, (list, tuple)):
        for entry in thing:
            spoil(entry)
    if isinstance(thing, list):
        thing.reverse()
        thing.append("spoiled")
    if isinstance(thing, dict):
        thing.clear()


class TestInterface(unittest.TestCase):
    def test_names_stand_in_their_files(self):
        for file, names in INTERFACE.items():
            tree = ast.parse((ROOT / f"{file}.py").read_text(encoding="utf-8"))
            defined = [item.name for item in tree.body if isinstance(item, (ast.FunctionDef, ast.ClassDef))]
            for name, signature in names.items():
                self.assertIn(name, defined, file)
                self.assertEqual(str(inspect.signature(found(name))), signature, name)

    def test_methods_stand_in_their_classes(self):
        for name, methods in METHODS.items():
            file = [file for file in INTERFACE if name in INTERFACE[file]][0]
            tree = ast.parse((ROOT / f"{file}.py").read_text(encoding="utf-8"))
            body = [item.body for item in tree.body if isinstance(item, ast.ClassDef) and item.name == name][0]
            defined = [item.name for item in body if isinstance(item, ast.FunctionDef)]
            for method, signature in methods.items():
                self.assertIn(method, defined, name)
                told = str(inspect.signature(getattr(found(name), method)))
                self.assertEqual(told.replace("(self, ", "(").replace("(self)", "()"), signature, method)

    def test_classes_and_functions(self):
        for file, names in INTERFACE.items():
            for name in names:
                self.assertEqual(inspect.isclass(found(name)), name[0].isupper())
        for name in CALLS:
            self.assertTrue(inspect.isfunction(found(name)))
        named = {name for names in INTERFACE.values() for name in names}
        self.assertEqual(named - set(CALLS), {"Graph", "Board", "Console"})


class TestGeneralRules(unittest.TestCase):
    def test_arguments_by_their_names(self):
        for name, arguments in CALLS.items():
            function = found(name)
            named = dict(zip(inspect.signature(function).parameters, arguments))
            self.assertEqual(len(named), len(arguments))
            backwards = {key: named[key] for key in list(named)[::-1]}
            self.assertEqual(function(**backwards), function(*arguments), name)

    def test_arguments_do_not_change(self):
        for name, arguments in CALLS.items():
            passed = copy.deepcopy(arguments)
            result = found(name)(*passed)
            kept = copy.deepcopy(result)
            self.assertEqual(passed, arguments, name)
            for argument in passed:
                spoil(argument)
            self.assertEqual(result, kept, name)

    def test_results_are_new(self):
        for name, arguments in CALLS.items():
            passed = copy.deepcopy(arguments)
            first = found(name)(*passed)
            kept = copy.deepcopy(first)
            spoil(first)
            self.assertEqual(passed, arguments, name)
            again = found(name)(*passed)
            self.assertEqual(again, kept, name)
            self.assertEqual(repr(again), repr(kept), name)

    def test_lists_in_exceptions_are_new(self):
        for name, arguments in FAILING:
            kept = None
            for turn in range(3):
                try:
                    result = found(name)(*arguments)
                except (RuntimeError, OverflowError) as error:
                    self.assertIsInstance(error.value, list)
                    if kept is None:
                        kept = copy.deepcopy(error.value)
                    self.assertEqual(error.value, kept, name)
                    spoil(error.value)
                else:
                    self.fail((name, result))

    def test_graphs_do_not_change(self):
        graphs = [path(2), path(3), TRIANGLE, KITE, MIXED]
        kept = [repr(graph) for graph in graphs]
        for name, arguments in CALLS.items():
            found(name)(*arguments)
        self.assertEqual([repr(graph) for graph in graphs], kept)
        for graph in graphs:
            for thing in (graph.edges(), graph.components(), graph.neighbours(0)):
                spoil(thing)
        self.assertEqual([repr(graph) for graph in graphs], kept)
        self.assertEqual(KITE.components(), [[0, 1, 2, 3]])
        self.assertEqual(KITE.neighbours(2), [0, 1, 3])

    def test_what_is_kept_is_copied(self):
        edges = [(0, 1), (1, 2)]
        graph = Graph(3, edges)
        position = [-1, 2, -3]
        board = Board(graph, position, 2)
        operations = [("put", 0, -5), ("add_node", 1)]
        board.together(operations)
        for thing in (edges, position, operations):
            spoil(thing)
        self.assertEqual(graph, path(3))
        self.assertEqual(board.position(), [-5, 2, -3, 1])
        self.assertEqual(board.log(), [("together", [("put", 0, -5), ("add_node", 1)])])
        board.undo()
        self.assertEqual(board.position(), [-1, 2, -3])

    def test_boards_and_consoles_know_nothing_of_one_another(self):
        boards = [Board(KITE, [-1, 2, -3, 4]) for turn in range(2)]
        consoles = [Console(), Console()]
        boards[0].play_on(0, 3)
        boards[0].add_node(1)
        consoles[0].run("new a 2")
        self.assertEqual([boards[1].position(), len(boards[1])], [[-1, 2, -3, 4], 0])
        self.assertEqual(len(consoles[1]), 0)


if __name__ == "__main__":
    unittest.main()
