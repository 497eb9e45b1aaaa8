"""Jumps and ends without playing: promises [16], [17], and what [2], [3], [4] say of them."""

import copy
import inspect
import itertools
import random
import unittest

from firenegatives import jumps
from firenegatives.errors import InvalidJump, InvalidPosition, Undecided
from firenegatives.firing import flip, has_ended, is_complete, play, run
from firenegatives.graphs import Graph
from firenegatives.jumps import is_jump, is_settled, jumped, settle
from tests.components import FREE, MIXED, MIXED_WEIGHTS, TAME, WILD_BESIDE, ends, positions_with
from tests.judges import value_of
from tests.samples import (
    GREAT, GRID, KITE, NOT_INTEGERS, balanced_graphs, cycle, finite_graphs, moved_graph, moved_list, no_nodes,
    no_positions, no_tuples, path, raised, side_by_side, some_order, star,
)

TRIANGLE = cycle(3)
PAIR = path(2)


class TestExamples(unittest.TestCase):
    def test_jumps(self):
        self.assertEqual([jumped(TRIANGLE, [30, 1, -30], [-10, 0, 10]), is_jump(PAIR, [1, 0])], [[0, 1, 0], False])

    def test_settling(self):
        position = [3 * 10 ** 20, 1, -3 * 10 ** 20]
        self.assertEqual([settle(TRIANGLE, position)[2], is_settled(TRIANGLE, position, ([-1, 0, 1], [], [0, 1, 0])),
                          settle(TRIANGLE, [1, 0, -1])], [[0, 1, 0], False, None])


class TestInterface(unittest.TestCase):
    SIGNATURES = {"is_jump": "(graph, thing)", "jumped": "(graph, position, jump)", "settle": "(graph, position)",
                  "is_settled": "(graph, position, thing)"}

    def test_argument_names(self):
        for name, signature in self.SIGNATURES.items():
            function = getattr(jumps, name)
            self.assertEqual(str(inspect.signature(function)), signature, name)
            self.assertEqual(function.__module__, "firenegatives.jumps", name)

    def test_keywords(self):
        self.assertIs(is_jump(thing=[1, 2, 3], graph=TRIANGLE), True)
        self.assertEqual(jumped(jump=[1, 0, 0], position=[1, 0, 0], graph=TRIANGLE), [3, -1, -1])
        self.assertEqual(settle(position=[-4], graph=path(1)), ([0], [0], [4]))
        self.assertIs(is_settled(thing=([0], [0], [4]), position=[-4], graph=path(1)), True)


class TestJumps(unittest.TestCase):
    def test_free_on_balanced_components_only(self):
        self.assertIs(is_jump(MIXED, [0] * 14), True)
        for node in range(14):
            for entry in (1, -1, GREAT):
                self.assertIs(is_jump(MIXED, [entry if other == node else 0 for other in range(14)]), node in FREE)
        self.assertIs(is_jump(MIXED, [3 * other if other in FREE else 0 for other in range(14)]), True)
        for graph, weights in balanced_graphs():
            self.assertIs(is_jump(graph, [(-7) ** node for node in range(graph.size())]), True)
        for graph in finite_graphs() + [KITE, GRID, star(6)]:
            self.assertIs(is_jump(graph, [0] * graph.size()), True)
            self.assertIs(is_jump(graph, [0] * (graph.size() - 1) + [1]), False)

    def test_no_jumps(self):
        for thing in no_positions(3) + no_tuples():
            self.assertIs(is_jump(TRIANGLE, thing), False)
            self.assertIs(raised(InvalidJump, jumped, TRIANGLE, [1, 2, 3], thing).value, thing)
        for entry in (1, -1, GREAT, False, None):
            jump = [entry, 0]
            self.assertIs(is_jump(PAIR, jump), False)
            self.assertIs(raised(InvalidJump, jumped, PAIR, [1, 2], jump).value, jump)

    def test_adding_by_the_definition(self):
        chance = random.Random(7)
        for graph, weights_list in TAME + [(MIXED, MIXED_WEIGHTS)]:
            free = [any(weights[node] for weights in weights_list) for node in range(graph.size())]
            for bound, great in itertools.product((3, GREAT), (2, GREAT)):
                position = [chance.randint(-bound, bound) for node in range(graph.size())]
                jump = [chance.randint(-great, great) if is_free else 0 for is_free in free]
                expected = list(position)
                for weights in weights_list:
                    times = value_of(weights, position)
                    for node, weight in enumerate(weights):
                        if weight:
                            around = sum(jump[other] for other in graph.neighbours(node))
                            expected[node] += times * (2 * jump[node] - around)
                found = jumped(graph, position, jump)
                self.assertEqual(found, expected)
                for weights in weights_list:
                    self.assertEqual(value_of(weights, found), value_of(weights, position))
                self.assertEqual(jumped(graph, found, [-entry for entry in jump]), position)

    def test_value_0_changes_nothing(self):
        self.assertEqual(jumped(TRIANGLE, [5, -2, -3], [GREAT, 1, 7]), [5, -2, -3])
        self.assertEqual(jumped(MIXED, [-1] * 2 + [0] * 3 + [-1] * 4 + [0] * 5, [0] * 9 + [1, 2, 3, 4, 5]),
                         [-1] * 2 + [0] * 3 + [-1] * 4 + [0] * 5)

    def test_a_jump_is_a_list_of_flips(self):
        seen, layer = {(2, 0, -1): 0}, [[2, 0, -1]]
        for length in range(1, 9):
            reached = [flip(TRIANGLE, position, node) for position in layer for node in range(3)]
            layer = [position for position in reached if tuple(position) not in seen]
            for position in layer:
                seen[tuple(position)] = length
        for jump in ([1, 0, 0], [0, 1, 0], [0, 0, 1], [-1, 0, 0], [0, -1, 0], [1, 1, 0], [1, -1, 0], [5, 6, 5]):
            self.assertIn(tuple(jumped(TRIANGLE, [2, 0, -1], jump)), seen, jump)

    def test_order_of_the_exceptions(self):
        for position in no_positions(3):
            self.assertIs(raised(InvalidPosition, jumped, TRIANGLE, position, [0, 0, 0]).value, position)
            self.assertIs(raised(InvalidPosition, jumped, TRIANGLE, position, None).value, position)

    def test_arguments_do_not_change_and_results_are_new(self):
        position, jump = [30, 1, -30], [-10, 0, 10]
        jumped(TRIANGLE, position, jump)[0] = 7
        is_jump(TRIANGLE, jump)
        jumped(TRIANGLE, position, [0, 0, 0])[0] = 7
        self.assertEqual([position, jump], [[30, 1, -30], [-10, 0, 10]])
        self.assertEqual(jumped(TRIANGLE, position, jump), [0, 1, 0])


class TestSettle(unittest.TestCase):
    def check_settled(self, graph, position):
        result = settle(graph, position)
        self.assertIs(result.__class__, tuple)
        jump, nodes, reached = result
        self.assertIs(is_jump(graph, jump), True)
        moved = jumped(graph, position, jump)
        self.assertIs(is_complete(graph, moved, nodes), True)
        self.assertLessEqual(len(nodes), 30000)
        self.assertEqual(play(graph, moved, nodes), reached)
        self.assertTrue(has_ended(graph, reached))
        self.assertIs(is_settled(graph, position, result), True)
        return result

    def test_small_and_great_numbers(self):
        chance = random.Random(8)
        for number, (graph, weights_list) in enumerate(TAME):
            for position in positions_with(weights_list, graph, chance):
                jump, nodes, reached = self.check_settled(graph, position)
                for weights in weights_list:
                    self.assertEqual(value_of(weights, reached), value_of(weights, position))
                order = some_order(graph.size(), number)
                moved = self.check_settled(moved_graph(graph, order), moved_list(position, order))
                self.assertEqual(moved[2], moved_list(reached, order))

    def test_where_firing_leads(self):
        chance = random.Random(9)
        played = 0
        for graph, weights_list in TAME:
            for position in positions_with(weights_list, graph, chance):
                if max(abs(number) for number in position) < 50:
                    end, nodes = run(graph, position, 10000)
                    self.assertTrue(has_ended(graph, end))
                    self.assertEqual(settle(graph, position)[2], end)
                    played += 1
        self.assertGreater(played, 100)

    def test_firing_does_not_change_the_end(self):
        chance = random.Random(10)
        for graph, weights_list in TAME[::3]:
            for position in positions_with(weights_list, graph, chance):
                reached = settle(graph, position)[2]
                for length in (1, 2, 5):
                    self.assertEqual(settle(graph, run(graph, position, length)[0])[2], reached)

    def test_the_shares_that_rounding_leaves(self):
        # Numbers that leave half the value at each node after every rounding, with either sign.
        for graph, weights in balanced_graphs():
            for signs in itertools.product((1, -1), repeat=3):
                shares = [signs[node % 3] * (499 + node % 2) for node in range(graph.size())]
                position = [2 * shares[node] - sum(shares[other] for other in graph.neighbours(node))
                            for node in range(graph.size())]
                position[weights.index(1)] += 1000
                jump, nodes, reached = self.check_settled(graph, position)
                self.assertEqual(run(graph, position, 10000)[0], reached)

    def test_none_exactly_where_no_play_ends(self):
        for numbers in itertools.product(range(-2, 3), repeat=3):
            position = list(numbers)
            self.assertEqual(settle(TRIANGLE, position) is not None, ends([[1, 1, 1]], position))
        for graph, weights_list in TAME:
            for weights in weights_list:
                node = weights.index(1)
                other = graph.neighbours(node)[0]
                for total, number, expected in [
                    (-1, 0, False), (0, 0, True), (0, -1, False), (0, GREAT, False), (-1, -GREAT, False),
                    (1, -GREAT, True), (1, GREAT, True), (GREAT, 1, True),
                ]:
                    position = [-1] * graph.size()
                    for every in weights_list:
                        position = [0 if weight else entry for weight, entry in zip(every, position)]
                    position[node], position[other] = total - weights[other] * number, number
                    self.assertEqual(ends(weights_list, position), expected)
                    self.assertEqual(settle(graph, position) is not None, expected, (graph, position))

    def test_undecided(self):
        for graph, component in WILD_BESIDE:
            for position in ([0] * graph.size(), [-1] * graph.size(), [GREAT, -GREAT] * (graph.size() // 2) + [-1] *
                             (graph.size() % 2)):
                for function, more in ((settle, ()), (is_settled, (None,)), (is_settled, (([], [], []),))):
                    found = raised(Undecided, function, graph, position, *more).value
                    self.assertEqual(found, component)
                    found.clear()
                    self.assertEqual(raised(Undecided, function, graph, position, *more).value, component)

    def test_the_position_is_checked_first(self):
        for graph in (TRIANGLE, path(3), Graph(3)):
            for position in no_positions(3):
                self.assertIs(raised(InvalidPosition, settle, graph, position).value, position)
                self.assertIs(raised(InvalidPosition, is_settled, graph, position, None).value, position)
        for position in no_positions(4):
            self.assertIs(raised(InvalidPosition, settle, KITE, position).value, position)
            self.assertIs(raised(InvalidPosition, is_settled, KITE, position, None).value, position)

    def test_arguments_do_not_change_and_results_are_new(self):
        position = [30, 1, -30]
        for graph in (TRIANGLE, path(3), Graph(3)):
            result = copy.deepcopy(settle(graph, position))
            for part in settle(graph, position):
                part.append(9)
            self.assertEqual(settle(graph, position), result)
        position = [0, 1, 0]
        settle(TRIANGLE, position)[2][0] = 9
        self.assertEqual(position, [0, 1, 0])


class TestIsSettled(unittest.TestCase):
    POSITION = [30, 1, -30]
    RIGHT = ([-10, 0, 10], [], [0, 1, 0])

    def test_any_tuple_that_fits(self):
        self.assertIs(is_settled(TRIANGLE, self.POSITION, self.RIGHT), True)
        end, nodes = run(TRIANGLE, self.POSITION, 10000)
        self.assertIs(is_settled(TRIANGLE, self.POSITION, ([0, 0, 0], nodes, end)), True)
        self.assertEqual(end, [0, 1, 0])
        # Adding weights to a jump changes nothing.
        self.assertIs(is_settled(TRIANGLE, self.POSITION, ([-9, 1, 11], [], end)), True)
        for entry in (-9, 1, 50):
            nodes = run(TRIANGLE, jumped(TRIANGLE, self.POSITION, [entry, 0, 0]), 10000)[1]
            self.assertIs(is_settled(TRIANGLE, self.POSITION, ([entry, 0, 0], nodes, end)), True)
        self.assertIs(is_settled(path(3), [-1, 2, -3], ([0, 0, 0], [0, 2, 1, 0], [1, 1, 1])), True)
        self.assertIs(is_settled(path(3), [-1, 2, -3], ([0, 0, 0], [2, 0, 1, 0], [1, 1, 1])), True)

    def test_another_jump(self):
        for entry in (-11, -9, 0, 10, GREAT, True, None):
            self.assertIs(is_settled(TRIANGLE, self.POSITION, ([entry, 0, 10], [], [0, 1, 0])), False)
        for jump in ([-10, 0], (-10, 0, 10), [-10, 0, 10, 0], None, [], [-10, False, 10]):
            self.assertIs(is_settled(TRIANGLE, self.POSITION, (jump, [], [0, 1, 0])), False)
        self.assertIs(is_settled(path(3), [-1, 2, -3], ([1, 0, 0], [0, 2, 1, 0], [1, 1, 1])), False)

    def test_a_node_more_less_or_exchanged(self):
        graph = side_by_side(TRIANGLE, path(2))
        position = [3 * GREAT, 1 - GREAT, -2 * GREAT, -1, -2]
        jump, nodes, reached = settle(graph, position)
        self.assertGreater(len(nodes), 2)
        moved = jumped(graph, position, jump)
        for place in range(len(nodes)):
            less = nodes[:place] + nodes[place + 1:]
            self.assertIs(is_settled(graph, position, (jump, less, reached)), False)
            for node in no_nodes(5):
                other = nodes[:place] + [node] + nodes[place + 1:]
                self.assertIs(is_settled(graph, position, (jump, other, reached)), False)
            for node in range(5):
                other = nodes[:place] + [node] + nodes[place + 1:]
                self.assertIs(is_settled(graph, position, (jump, other, reached)), is_complete(graph, moved, other))
                more = nodes[:place] + [node] + nodes[place:]
                self.assertIs(is_settled(graph, position, (jump, more, reached)), False)
            self.assertIs(is_settled(graph, position, (jump, nodes[:place], play(graph, moved, nodes[:place]))), False)
        for node in list(range(5)) + no_nodes(5):
            self.assertIs(is_settled(graph, position, (jump, nodes + [node], reached)), False)
        for other in (tuple(nodes), None, 3, "0", {}, [nodes]):
            self.assertIs(is_settled(graph, position, (jump, other, reached)), False)

    def test_another_end(self):
        for end in ([0, 0, 1], [1, 0, 0], [0, 1], [0, 1, 0, 0], (0, 1, 0), [False, 1, 0], [0, True, 0], [0, 1, -1],
                    None, [30, 1, -30], [0, 1.0, 0], [], 7):
            self.assertIs(is_settled(TRIANGLE, self.POSITION, ([-10, 0, 10], [], end)), False)

    def test_no_play_ends(self):
        for position, things in [([1, 0, -1], [([0, 0, 0], [2], [0, -1, 1])]),
                                 ([0, -1, 0], [([0, 0, 0], [1], [-1, 1, -1])]),
                                 ([1, 0, -1], [([0, 0, 0], [], [0, 0, 0]), ([0, 0, 0], [], [1, 0, -1])]),
                                 ([-5, 2, 2], [([0, 0, 0], [], [-5, 2, 2]), ([0, 0, 0], [0], [5, -3, -3])])]:
            for thing in things:
                self.assertIs(is_settled(TRIANGLE, position, thing), False)
        self.assertIs(is_settled(TRIANGLE, [0, 0, 0], ([5, 6, GREAT], [], [0, 0, 0])), True)

    def test_other_kinds(self):
        things = [list(self.RIGHT), self.RIGHT[:2], self.RIGHT + ([],), self.RIGHT[::-1], (self.RIGHT,), None]
        for thing in things + no_tuples() + NOT_INTEGERS:
            self.assertIs(is_settled(TRIANGLE, self.POSITION, thing), False, thing)

    def test_arguments_do_not_change(self):
        position, thing = list(self.POSITION), copy.deepcopy(self.RIGHT)
        is_settled(TRIANGLE, position, thing)
        self.assertEqual([position, thing], [self.POSITION, self.RIGHT])


if __name__ == "__main__":
    unittest.main()
