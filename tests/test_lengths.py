"""Lengths and sums without playing: promise [18], and what [3], [4] say of them."""

import copy
import inspect
import itertools
import random
import unittest

from firenegatives import lengths
from firenegatives.errors import InvalidPosition, Undecided
from firenegatives.families import classify
from firenegatives.firing import fire, flip, has_ended, negatives, run, totals_of
from firenegatives.forms import negative_forms
from firenegatives.graphs import Graph
from firenegatives.jumps import jumped, settle
from firenegatives.lengths import steps, totals
from tests.components import TAME, WILD_BESIDE, ends, positions_with
from tests.judges import value_of
from tests.samples import (
    GREAT, KITE, balanced_graphs, cycle, finite_graphs, forked, legs, moved_graph, moved_list, no_positions, path,
    raised, side_by_side, some_order, star,
)

TRIANGLE = cycle(3)


class TestExamples(unittest.TestCase):
    def test_example(self):
        self.assertEqual([steps(path(2), [-1, -2]), totals(path(2), [-1, -2]), steps(TRIANGLE, [10, 1, -10])],
                         [3, [3, 3], 19])


class TestInterface(unittest.TestCase):
    def test_argument_names(self):
        for name in ("steps", "totals"):
            function = getattr(lengths, name)
            self.assertEqual(str(inspect.signature(function)), "(graph, position)", name)
            self.assertEqual(function.__module__, "firenegatives.lengths", name)

    def test_keywords(self):
        self.assertEqual(steps(position=[-4], graph=path(1)), 1)
        self.assertEqual(totals(position=[-4], graph=path(1)), [4])


class TestLengths(unittest.TestCase):
    def check_played(self, graph, position):
        end, nodes = run(graph, position, 10000)
        self.assertTrue(has_ended(graph, end))
        self.assertEqual(steps(graph, position), len(nodes))
        self.assertEqual(totals(graph, position), totals_of(graph, position, nodes))

    def test_small_numbers(self):
        chance = random.Random(13)
        for number, (graph, weights_list) in enumerate(TAME):
            order = some_order(graph.size(), number)
            for position in positions_with(weights_list, graph, chance):
                if max(abs(entry) for entry in position) < 50:
                    self.check_played(graph, position)
                    self.check_played(moved_graph(graph, order), moved_list(position, order))

    def test_all_small_positions(self):
        for graph, weights_list in [(path(3), []), (star(4), []), (TRIANGLE, [[1, 1, 1]]), (cycle(4), [[1, 1, 1, 1]])]:
            for numbers in itertools.product(range(-2, 3), repeat=graph.size()):
                if ends(weights_list, numbers):
                    self.check_played(graph, list(numbers))
                else:
                    self.assertIsNone(steps(graph, list(numbers)))
                    self.assertIsNone(totals(graph, list(numbers)))

    def test_thousands_of_firings(self):
        for graph, position in [(TRIANGLE, [4000, 1, -4000]), (cycle(16), [-300] + [0] * 14 + [301]),
                                (forked(16), [9] * 11 + [-101] + [6] * 4),
                                (legs(1, 2, 5), [-40] + [30] * 3 + [10] * 5)]:
            self.check_played(graph, position)

    def test_end_less_start(self):
        chance = random.Random(14)
        for number, (graph, weights_list) in enumerate(TAME):
            for start in positions_with(weights_list, graph, chance):
                end, sums = settle(graph, start)[2], totals(graph, start)
                for node in range(graph.size()):
                    around = sum(sums[other] for other in graph.neighbours(node))
                    self.assertEqual(end[node] - start[node], 2 * sums[node] - around)
                self.assertGreaterEqual(min(sums), 0)
                order = some_order(graph.size(), number)
                moved = moved_graph(graph, order), moved_list(start, order)
                self.assertEqual(totals(*moved), moved_list(sums, order))
                self.assertEqual(steps(*moved), steps(graph, start))

    def test_each_firing(self):
        chance = random.Random(15)
        for graph, weights_list in TAME[::2]:
            for position in positions_with(weights_list, graph, chance):
                length, sums = steps(graph, position), totals(graph, position)
                for turn in range(3):
                    if has_ended(graph, position):
                        self.assertEqual([length, sums], [0, [0] * graph.size()])
                        break
                    node = chance.choice(negatives(graph, position))
                    sums[node] += position[node]
                    length -= 1
                    position = fire(graph, position, node)
                    self.assertEqual([steps(graph, position), totals(graph, position)], [length, sums])

    def test_each_reverse_firing(self):
        chance = random.Random(16)
        for graph, weights_list in TAME[1::4]:
            for position in positions_with(weights_list, graph, chance):
                length, sums = steps(graph, position), totals(graph, position)
                for node, number in enumerate(position):
                    if number > 0:
                        more = [total + (number if other == node else 0) for other, total in enumerate(sums)]
                        before = flip(graph, position, node)
                        self.assertEqual([steps(graph, before), totals(graph, before)], [length + 1, more])

    def test_each_negative_form_is_one_firing(self):
        chance = random.Random(17)
        for graph in finite_graphs():
            position = [chance.randint(-GREAT, GREAT) for node in range(graph.size())]
            self.assertEqual(steps(graph, position), len(negative_forms(graph, position)))
        for graph, weights in balanced_graphs():
            for position in positions_with([weights], graph, chance):
                values = [value_of(form, position) for form in classify(graph)[2]]
                period = value_of(weights, position)
                counts = [-number // period + (-number % period > 0) for number in values if number < 0]
                self.assertEqual(steps(graph, position), sum(counts))

    def test_a_jump_makes_great_lengths(self):
        start = jumped(TRIANGLE, [0, 1, 0], [GREAT, 0, 0])
        self.assertEqual(steps(TRIANGLE, start), 4 * GREAT - 2)
        self.assertEqual(steps(TRIANGLE, [GREAT, 1, -GREAT]), 2 * GREAT - 1)
        self.assertEqual(steps(side_by_side(TRIANGLE, path(2)), [GREAT, 1, -GREAT, -1, -2]), 2 * GREAT + 2)

    def test_nothing_to_fire(self):
        for graph, weights_list in TAME:
            for position in ([0] * graph.size(), [GREAT] * graph.size()):
                self.assertEqual(steps(graph, position), 0)
                self.assertEqual(totals(graph, position), [0] * graph.size())

    def test_none_where_no_play_ends(self):
        for graph, weights_list in TAME:
            for weights in weights_list:
                node = weights.index(1)
                other = graph.neighbours(node)[0]
                for total, number in [(-1, 0), (0, -1), (0, GREAT), (-1, GREAT), (-GREAT, 1)]:
                    position = [-1] * graph.size()
                    for every in weights_list:
                        position = [0 if weight else entry for weight, entry in zip(every, position)]
                    position[node], position[other] = total - weights[other] * number, number
                    self.assertIsNone(steps(graph, position))
                    self.assertIsNone(totals(graph, position))

    def test_undecided(self):
        for graph, component in WILD_BESIDE:
            for position in ([0] * graph.size(), [-1] * graph.size()):
                for function in (steps, totals):
                    found = raised(Undecided, function, graph, position).value
                    self.assertEqual(found, component)
                    found.clear()
                    self.assertEqual(raised(Undecided, function, graph, position).value, component)

    def test_the_position_is_checked_first(self):
        for function in (steps, totals):
            for graph in (TRIANGLE, path(3), Graph(3)):
                for position in no_positions(3):
                    self.assertIs(raised(InvalidPosition, function, graph, position).value, position)
            for position in no_positions(4):
                self.assertIs(raised(InvalidPosition, function, KITE, position).value, position)

    def test_arguments_do_not_change_and_results_are_new(self):
        for graph in (TRIANGLE, path(3)):
            position = [-9, 5, 7]
            before = copy.deepcopy(totals(graph, position))
            steps(graph, position)
            totals(graph, position).clear()
            self.assertEqual([position, totals(graph, position)], [[-9, 5, 7], before])


if __name__ == "__main__":
    unittest.main()
