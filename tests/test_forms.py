"""Forms and closed lists: promises [10], [11], and what [2], [3], [4] say of them."""

import copy
import inspect
import itertools
import random
import unittest

from firenegatives import forms
from firenegatives.errors import InvalidForm, InvalidNode, InvalidPosition
from firenegatives.firing import flip, run
from firenegatives.forms import closed_list, image, is_closed_list, negative_forms, unit, value
from firenegatives.graphs import Graph
from tests.judges import is_closed, unit_of, value_of
from tests.samples import (
    GREAT, GRID, KITE, NOT_INTEGERS, balanced_graphs, cycle, finite_graphs, forked, legs, moved_graph, moved_list,
    no_nodes, no_positions, no_tuples, path, raised, side_by_side, some_order, star, wild_graphs,
)

PATH = path(3)
PAIR = path(2)
SEVERAL = [side_by_side(path(3), path(1), path(2)), side_by_side(legs(1, 2, 4), legs(1, 2, 2), path(2)),
           side_by_side(legs(1, 1, 3), path(1), legs(1, 2, 3), path(2)), Graph(16), Graph(5, [(0, 3), (1, 4)])]


class TestExamples(unittest.TestCase):
    def test_forms(self):
        self.assertEqual([unit(PATH, 1), image(PATH, [1, 0, 0], 1), image(PATH, [1, 0, 0], 0),
                          value(PATH, [1, 1, 0], [-1, 2, -3])], [[0, 1, 0], [1, 1, 0], [-1, 0, 0], 1])

    def test_closed_lists(self):
        self.assertEqual([closed_list(PAIR), is_closed_list(PAIR, [[1, 0], [0, 1]]), negative_forms(PAIR, [-1, 2]),
                          closed_list(Graph(3, [(0, 1), (1, 2), (0, 2)]))],
                         [[[0, 1], [1, 0], [1, 1]], False, [[1, 0]], None])


class TestInterface(unittest.TestCase):
    SIGNATURES = {
        "unit": "(graph, node)", "value": "(graph, form, position)", "image": "(graph, form, node)",
        "closed_list": "(graph)", "is_closed_list": "(graph, thing)", "negative_forms": "(graph, position)",
    }

    def test_argument_names(self):
        for name, signature in self.SIGNATURES.items():
            function = getattr(forms, name)
            self.assertEqual(str(inspect.signature(function)), signature, name)
            self.assertEqual(function.__module__, "firenegatives.forms", name)

    def test_keywords(self):
        self.assertEqual(unit(node=0, graph=PAIR), [1, 0])
        self.assertEqual(value(position=[3, 4], form=[1, 2], graph=PAIR), 11)
        self.assertEqual(image(node=1, form=[1, 0], graph=PAIR), [1, 1])
        self.assertEqual(closed_list(graph=Graph(1)), [[1]])
        self.assertIs(is_closed_list(thing=[[1]], graph=Graph(1)), True)
        self.assertEqual(negative_forms(position=[-3], graph=Graph(1)), [[1]])


class TestForms(unittest.TestCase):
    def test_units(self):
        for size in (1, 2, 16):
            for node in range(size):
                self.assertEqual(unit(Graph(size), node), list(unit_of(size, node)))

    def test_values(self):
        self.assertEqual(value(PATH, [0, 0, 0], [5, -7, GREAT]), 0)
        self.assertEqual(value(PATH, [-1, 2, 3], [5, -7, 4]), -7)
        self.assertEqual(value(PATH, [GREAT, -1, 2], [-GREAT, GREAT, 1]), -GREAT * GREAT - GREAT + 2)
        self.assertEqual(value(Graph(1), [7], [-6]), -42)

    def test_images(self):
        graph = star(4)
        self.assertEqual(image(graph, [1, 2, 3, 4], 0), [8, 2, 3, 4])
        self.assertEqual(image(graph, [1, 2, 3, 4], 2), [1, 2, -2, 4])
        self.assertEqual(image(graph, [-GREAT, 1, 0, GREAT], 0), [2 * GREAT + 1, 1, 0, GREAT])
        self.assertEqual(image(Graph(2), [3, 4], 1), [3, -4])

    def test_value_after_a_flip_is_that_of_the_image_before(self):
        chance = random.Random(1)
        for graph in (PATH, star(5), cycle(6), KITE, GRID, Graph(3), legs(1, 2, 4)):
            for bound in (3, GREAT):
                form = [chance.randint(-bound, bound) for node in range(graph.size())]
                position = [chance.randint(-bound, bound) for node in range(graph.size())]
                for node in range(graph.size()):
                    after = image(graph, form, node)
                    self.assertEqual(value(graph, form, flip(graph, position, node)), value(graph, after, position))
                    self.assertEqual(image(graph, after, node), form)
                    self.assertEqual(value(graph, unit(graph, node), position), position[node])

    def test_wrong_arguments(self):
        for thing in no_positions(3):
            self.assertIs(raised(InvalidForm, value, PATH, thing, [1, 2, 3]).value, thing)
            self.assertIs(raised(InvalidPosition, value, PATH, [1, 2, 3], thing).value, thing)
            self.assertIs(raised(InvalidForm, image, PATH, thing, 0).value, thing)
        for node in no_nodes(3):
            self.assertIs(raised(InvalidNode, unit, PATH, node).value, node)
            self.assertIs(raised(InvalidNode, image, PATH, [1, 2, 3], node).value, node)

    def test_order_of_the_exceptions(self):
        self.assertEqual(raised(InvalidForm, value, PATH, [1, 2], [3]).value, [1, 2])
        self.assertEqual(raised(InvalidForm, value, PATH, [1, True, 2], None).value, [1, True, 2])
        self.assertEqual(raised(InvalidForm, image, PATH, (1, 2, 3), 3).value, (1, 2, 3))
        self.assertIs(raised(InvalidForm, image, PATH, None, True).value, None)

    def test_arguments_do_not_change_and_results_are_new(self):
        form, position = [1, 2, 3], [-1, 2, -3]
        value(PATH, form, position)
        image(PATH, form, 1).append(5)
        unit(PATH, 1).append(5)
        self.assertEqual([form, position], [[1, 2, 3], [-1, 2, -3]])
        self.assertEqual([image(PATH, form, 1), unit(PATH, 1)], [[1, 2, 3], [0, 1, 0]])


class TestClosedList(unittest.TestCase):
    def check_closed(self, graph):
        found = closed_list(graph)
        self.assertTrue(is_closed(graph, found), graph)
        self.assertEqual(found, sorted(found))
        self.assertIs(is_closed_list(graph, found), True)
        return found

    def test_every_finite_graph(self):
        for graph in finite_graphs():
            self.check_closed(graph)

    def test_numbers_of_forms(self):
        for size in range(1, 17):
            self.assertEqual(len(closed_list(path(size))), size * (size + 1) // 2)
        for size in range(4, 17):
            self.assertEqual(len(closed_list(legs(1, 1, size - 3))), size * (size - 1))
        self.assertEqual([len(closed_list(legs(1, 2, length))) for length in (2, 3, 4)], [36, 63, 120])

    def test_several_components(self):
        for graph in SEVERAL:
            found = self.check_closed(graph)
            for form in found:
                nodes = [node for node, entry in enumerate(form) if entry]
                self.assertTrue(any(set(nodes) <= set(component) for component in graph.components()))

    def test_renumbered(self):
        for number, graph in enumerate(finite_graphs() + SEVERAL):
            order = some_order(graph.size(), number)
            moved = moved_graph(graph, order)
            self.assertEqual(self.check_closed(moved), sorted(moved_list(form, order) for form in closed_list(graph)))

    def test_none_where_a_component_is_not_finite(self):
        for graph in [each for each, weights in balanced_graphs()] + wild_graphs():
            self.assertIsNone(closed_list(graph), graph)
            self.assertIsNone(negative_forms(graph, [-1] * graph.size()), graph)
        for graph in (side_by_side(path(3), cycle(3)), side_by_side(cycle(3), path(3)), side_by_side(KITE, path(2)),
                      side_by_side(path(1), forked(5), path(2)), side_by_side(path(2), star(6))):
            self.assertIsNone(closed_list(graph), graph)

    def test_result_is_new(self):
        found = closed_list(PAIR)
        found[0][0] = 7
        found.pop()
        self.assertEqual(closed_list(PAIR), [[0, 1], [1, 0], [1, 1]])


class TestIsClosedList(unittest.TestCase):
    def test_any_order(self):
        chance = random.Random(2)
        for graph in finite_graphs() + SEVERAL:
            found = closed_list(graph)
            chance.shuffle(found)
            self.assertIs(is_closed_list(graph, found), True)
            self.assertIs(is_closed_list(graph, found[::-1]), True)

    def test_a_form_less_twice_or_more(self):
        for graph in (path(4), legs(1, 1, 2), legs(1, 2, 2), SEVERAL[0]):
            found = closed_list(graph)
            for place, form in enumerate(found):
                self.assertIs(is_closed_list(graph, found[:place] + found[place + 1:]), False)
                self.assertIs(is_closed_list(graph, found + [list(form)]), False)
            size = graph.size()
            for more in ([0] * size, [1] + [0] * (size - 2) + [1], [2] * size, [GREAT] * size, [-1] + [0] * (size - 1)):
                self.assertIs(is_closed_list(graph, found + [more]), False)
            self.assertIs(is_closed_list(graph, found + [[-entry for entry in form] for form in found]), False)
        self.assertIs(is_closed_list(path(1), [[1]]), True)
        self.assertIs(is_closed_list(path(1), [[1], [-1]]), False)
        self.assertIs(is_closed_list(Graph(2), [[1, 0], [0, 1], [3, -3], [-3, 3], [3, 3], [-3, -3]]), False)

    def test_an_entry_changed(self):
        for graph in (path(3), legs(1, 1, 1), SEVERAL[0]):
            found = closed_list(graph)
            for place, node in itertools.product(range(len(found)), range(graph.size())):
                right = found[place][node]
                for entry in (right + 1, right - 1, GREAT, -GREAT, True, False, None, "1", 1.0):
                    changed = copy.deepcopy(found)
                    changed[place][node] = entry
                    self.assertIs(is_closed_list(graph, changed), False)

    def test_lists_of_other_graphs(self):
        graphs = [path(4), star(4), Graph(4), cycle(4), KITE, Graph(4, [(0, 1), (2, 3)]),
                  moved_graph(path(4), [1, 0, 2, 3])]
        for graph in graphs:
            for other in graphs:
                found = closed_list(other)
                self.assertIs(is_closed_list(graph, found), found is not None and graph == other)

    def test_other_kinds(self):
        found = closed_list(PAIR)
        things = [tuple(found), [tuple(form) for form in found], {tuple(form): True for form in found}, found + [None],
                  found + [[1]], found + [[1, 1, 1]], found + [[]], [], [[]], [found], iter(found), found[0],
                  found[:2] + [(1, 1)], found[:2] + ["11"], found + [found]]
        for thing in things + no_tuples() + NOT_INTEGERS + [[thing] for thing in NOT_INTEGERS]:
            self.assertIs(is_closed_list(PAIR, thing), False, thing)
        endless = [[1, 0]]
        endless.append(endless)
        self.assertIs(is_closed_list(PAIR, endless), False)

    def test_argument_does_not_change(self):
        found = closed_list(PATH)[::-1]
        before = copy.deepcopy(found)
        is_closed_list(PATH, found)
        self.assertEqual(found, before)


class TestNegativeForms(unittest.TestCase):
    def test_as_many_as_firings(self):
        chance = random.Random(3)
        for graph in finite_graphs() + SEVERAL:
            for bound in (1, 5, GREAT):
                position = [chance.randint(-bound, bound) for node in range(graph.size())]
                found = negative_forms(graph, position)
                self.assertEqual(len(found), len(run(graph, position, 10000)[1]))
                self.assertEqual(found, [form for form in closed_list(graph) if value_of(form, position) < 0])

    def test_all_or_none_of_them(self):
        for graph in (path(16), legs(1, 1, 13), legs(1, 2, 4)):
            self.assertEqual(negative_forms(graph, [-1] * graph.size()), closed_list(graph))
            self.assertEqual(negative_forms(graph, [0] * graph.size()), [])
            self.assertEqual(negative_forms(graph, [GREAT] * graph.size()), [])

    def test_the_position_is_checked(self):
        for graph in (PATH, cycle(3)):
            for position in no_positions(3):
                self.assertIs(raised(InvalidPosition, negative_forms, graph, position).value, position)

    def test_argument_does_not_change_and_result_is_new(self):
        position = [-1, 2, -3]
        negative_forms(PATH, position)[0][0] = 9
        self.assertEqual(position, [-1, 2, -3])
        self.assertEqual(negative_forms(PATH, position), [[0, 0, 1], [0, 1, 1], [1, 0, 0], [1, 1, 1]])


if __name__ == "__main__":
    unittest.main()
