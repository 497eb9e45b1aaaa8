"""Positions that are connected by flips: promise [24], [16] once more, and what [3], [4] (a), (g) say of them."""

import copy
import inspect
import itertools
import random
import unittest

from firenegatives import links
from firenegatives.errors import InvalidPosition, TooMany, Undecided
from firenegatives.firing import flip, has_ended, run
from firenegatives.graphs import Graph
from firenegatives.jumps import jumped, settle
from firenegatives.lengths import steps
from firenegatives.links import canonical, is_link, link, linked
from tests.components import MIXED, TAME, WILD_BESIDE, positions_with
from tests.judges import near_of, value_of
from tests.samples import (
    GREAT, GRID, KITE, NOT_INTEGERS, balanced_graphs, complete_edges, cycle, finite_graphs, forked, legs, moved_graph,
    moved_list, no_node_lists, no_positions, part_of, path, raised, side_by_side, some_order, star,
)
from tests.searches import flipped, reached_by_flips

PAIR = path(2)
TRIANGLE = cycle(3)


def left_out(weights):
    """Return e of [24]: the smallest node whose entry in the weights is 1."""
    return weights.index(1)


def with_value(weights_list, position, values):
    """Return the position in which a number of each balanced component is changed so that it has the value."""
    position = list(position)
    for weights, value in zip(weights_list, values):
        position[left_out(weights)] += value - value_of(weights, position)
    return position


def values_for(weights_list, chance):
    """Return lists of values for the balanced components, of all signs, small and great."""
    for choice in ([0], [1, 2, 3], [-1, -2, -3], [0, 1, -1], [GREAT, -GREAT, 1], [0, GREAT]):
        yield [chance.choice(choice) for weights in weights_list]


def positions_of_all_values(graph, weights_list, chance):
    for values in values_for(weights_list, chance):
        for bound in (3, GREAT):
            position = [chance.randint(-bound, bound) for node in range(graph.size())]
            yield with_value(weights_list, position, values)


def shuffled(graph, position, count, chance):
    """Return the position after so many flips of nodes that chance chooses."""
    near, numbers = near_of(graph), tuple(position)
    for turn in range(count):
        numbers = flipped(near, numbers, chance.randrange(graph.size()))
    return list(numbers)


def canonical_by_settling(graph, weights_list, position):
    """Return the canonical position as [24] says it where no balanced component has the value 0."""
    signs = [1] * graph.size()
    for weights in weights_list:
        if value_of(weights, position) < 0:
            signs = [-1 if weight else sign for weight, sign in zip(weights, signs)]
    end = settle(graph, [sign * number for sign, number in zip(signs, position)])[2]
    return [sign * number for sign, number in zip(signs, end)]


def most_flips(graph, weights_list, position):
    """Return how many firings lead a position to its canonical one: [24]."""
    count = 0
    for component in graph.components():
        kept, sign = component, 1
        for weights in weights_list:
            if weights[component[0]]:
                value = value_of(weights, position)
                sign = -1 if value < 0 else 1
                if value == 0:
                    kept = [node for node in component if node != left_out(weights)]
        count += steps(part_of(graph, kept), [sign * position[node] for node in kept])
    return count


class TestExamples(unittest.TestCase):
    def test_example(self):
        self.assertEqual(
            [canonical(TRIANGLE, [1, 0, -1]), canonical(TRIANGLE, [-1, -1, 1]),
             linked(TRIANGLE, [1, 0, -1], [0, 1, -1]), is_link(TRIANGLE, [1, 0, -1], [-1, 1, 0], [0])],
            [[-1, 1, 0], [0, 0, -1], False, True])


class TestInterface(unittest.TestCase):
    SIGNATURES = {"canonical": "(graph, position)", "linked": "(graph, position, other)",
                  "link": "(graph, position, other)", "is_link": "(graph, position, other, thing)"}

    def test_argument_names(self):
        for name, signature in self.SIGNATURES.items():
            function = getattr(links, name)
            self.assertEqual(str(inspect.signature(function)), signature, name)
            self.assertEqual(function.__module__, "firenegatives.links", name)

    def test_keywords(self):
        self.assertEqual(canonical(position=[-1, -2], graph=PAIR), [2, 1])
        self.assertIs(linked(other=[2, 1], position=[-1, -2], graph=PAIR), True)
        self.assertEqual(link(other=[1, 2], position=[-1, 3], graph=PAIR), [0])
        self.assertIs(is_link(thing=[1, 0], other=[-2, -1], position=[-1, 3], graph=PAIR), True)


class TestCanonical(unittest.TestCase):
    def test_finite_and_positive_and_negative(self):
        chance = random.Random(41)
        for number, (graph, weights_list) in enumerate(TAME):
            order = some_order(graph.size(), number)
            for position in positions_of_all_values(graph, weights_list, chance):
                if all(value_of(weights, position) != 0 for weights in weights_list):
                    found = canonical(graph, position)
                    self.assertEqual(found, canonical_by_settling(graph, weights_list, position))
                    moved = canonical(moved_graph(graph, order), moved_list(position, order))
                    self.assertEqual(moved, moved_list(found, order))

    def test_the_end_of_complete_plays(self):
        chance = random.Random(42)
        for graph, weights_list in TAME:
            for position in positions_with(weights_list, graph, chance):
                if settle(graph, position) is not None:
                    self.assertEqual(canonical(graph, position), settle(graph, position)[2])

    def test_value_0_by_flips(self):
        chance = random.Random(43)
        small = [(cycle(size), [1] * size) for size in (3, 4, 5)]
        small += [(star(5), [2, 1, 1, 1, 1]), (forked(6), [2, 2, 1, 1, 1, 1])]
        for number, (graph, weights) in enumerate(small):
            for turn in range(6):
                order = some_order(graph.size(), 6 * number + turn)
                moved, entries = moved_graph(graph, order), moved_list(weights, order)
                position = [chance.randint(-1, 1) * chance.choice((1, GREAT)) for node in range(graph.size())]
                position = with_value([entries], position, [0])
                free = left_out(entries)
                orbit = reached_by_flips(moved, position)
                expected = [list(numbers) for numbers in orbit
                            if all(number >= 0 for node, number in enumerate(numbers) if node != free)]
                self.assertEqual([canonical(moved, position)], expected)

    def test_value_0_on_all_balanced_graphs(self):
        chance = random.Random(44)
        for number, (graph, weights) in enumerate(balanced_graphs()):
            for turn in range(4):
                order = some_order(graph.size(), number + 50 * turn) if turn else list(range(graph.size()))
                moved, entries = moved_graph(graph, order), moved_list(weights, order)
                for bound in (2, GREAT):
                    position = with_value([entries], [chance.randint(-bound, bound) for entry in entries], [0])
                    found = canonical(moved, position)
                    self.assertEqual(value_of(entries, found), 0)
                    free = left_out(entries)
                    self.assertGreaterEqual(min(found[:free] + found[free + 1:]), 0)
                    self.assertEqual(canonical(moved, shuffled(moved, position, 30, chance)), found)

    def test_each_flip_leaves_it(self):
        chance = random.Random(45)
        two = (side_by_side(cycle(3), star(5)), [[1] * 3 + [0] * 5, [0] * 3 + [2, 1, 1, 1, 1]])
        for graph, weights_list in TAME[::2] + [two]:
            for position in positions_of_all_values(graph, weights_list, chance):
                found = canonical(graph, position)
                for node in range(graph.size()):
                    self.assertEqual(canonical(graph, flip(graph, position, node)), found)
                self.assertEqual(canonical(graph, shuffled(graph, position, 25, chance)), found)
                self.assertEqual(canonical(graph, found), found)

    def test_several_components_of_all_values(self):
        graph = side_by_side(TRIANGLE, path(2), cycle(4), TRIANGLE, path(1))
        self.assertEqual(
            canonical(graph, [1, 0, -1] + [-1, -2] + [-1, -1, 0, 1] + [30, 1, -30] + [-GREAT]),
            [-1, 1, 0] + [2, 1] + canonical(cycle(4), [-1, -1, 0, 1]) + [0, 1, 0] + [GREAT])
        chance = random.Random(46)
        for graph, weights_list in TAME:
            if len(graph.components()) > 1:
                for position in positions_of_all_values(graph, weights_list, chance):
                    found = canonical(graph, position)
                    for component in graph.components():
                        alone = canonical(part_of(graph, component), [position[node] for node in component])
                        self.assertEqual([found[node] for node in component], alone)

    def test_zeros(self):
        for graph, weights_list in TAME:
            self.assertEqual(canonical(graph, [0] * graph.size()), [0] * graph.size())

    def test_by_hand(self):
        self.assertEqual(canonical(TRIANGLE, [0, 0, -1]), [0, 0, -1])
        self.assertEqual(canonical(TRIANGLE, [1, -1, 0]), canonical(TRIANGLE, [0, 1, -1]))
        self.assertEqual(canonical(TRIANGLE, [-GREAT, GREAT, 0]), [-GREAT, GREAT, 0])
        self.assertEqual(canonical(TRIANGLE, [GREAT, -GREAT, 0]), [-GREAT, 0, GREAT])
        self.assertEqual(canonical(star(5), [0, 1, -1, 0, 0]), [0, -1, 1, 0, 0])
        self.assertEqual(canonical(path(1), [-5]), [5])

    def test_undecided(self):
        for graph, component in WILD_BESIDE:
            for position in ([0] * graph.size(), [-GREAT] * graph.size(), [1] * graph.size()):
                for call in (lambda: raised(Undecided, canonical, graph, position),
                             lambda: raised(Undecided, linked, graph, position, position),
                             lambda: raised(Undecided, linked, graph, position, [7] * graph.size()),
                             lambda: raised(Undecided, link, graph, position, list(position)),
                             lambda: raised(Undecided, link, graph, position, [7] * graph.size())):
                    caught = call()
                    self.assertEqual(caught.value, component)
                    caught.value.append(99)
                    self.assertEqual(call().value, component)

    def test_invalid_positions(self):
        for graph in (TRIANGLE, Graph(3)):
            for position in no_positions(3):
                self.assertIs(raised(InvalidPosition, canonical, graph, position).value, position)
        for position in no_positions(4):
            self.assertIs(raised(InvalidPosition, canonical, KITE, position).value, position)

    def test_arguments_do_not_change_and_results_are_new(self):
        for position in ([30, 1, -30], [0, 1, 0], [1, 0, -1], [-1, 1, 0], [-5, 2, 1], [0, 0, 0]):
            before = list(position)
            first = list(canonical(TRIANGLE, position))
            canonical(TRIANGLE, position).append(9)
            self.assertEqual([position, canonical(TRIANGLE, position)], [before, first])


class TestLinked(unittest.TestCase):
    def test_against_a_search_on_finite_graphs(self):
        for graph, bound in [(PAIR, 3), (path(3), 1), (Graph(2), 2), (side_by_side(path(2), path(1)), 1)]:
            positions = [list(numbers) for numbers in itertools.product(range(-bound, bound + 1), repeat=graph.size())]
            for position in positions:
                orbit = reached_by_flips(graph, position)
                for other in positions:
                    self.check_pair(graph, position, other, tuple(other) in orbit)

    def check_pair(self, graph, position, other, expected):
        self.assertIs(linked(graph, position, other), expected)
        found = link(graph, position, other)
        self.assertIs(found is not None, expected)
        if expected:
            self.assertIs(is_link(graph, position, other, found), True)

    def test_against_a_search_with_the_value_0(self):
        for graph, bound in [(TRIANGLE, 3), (cycle(4), 1), (star(5), 1)]:
            weights = [2, 1, 1, 1, 1] if graph == star(5) else [1] * graph.size()
            positions = [list(numbers) for numbers in itertools.product(range(-bound, bound + 1), repeat=graph.size())
                         if value_of(weights, numbers) == 0]
            for position in positions[::2]:
                orbit = reached_by_flips(graph, position)
                for other in positions:
                    self.check_pair(graph, position, other, tuple(other) in orbit)

    def test_against_a_search_with_other_values(self):
        # All positions with that value in a box fall into as many classes as there are ended ones with it.
        for value in (1, 2, 3, -1, -2):
            box = [list(numbers) for numbers in itertools.product(range(-4, 5), repeat=3)]
            positions = [numbers for numbers in box if sum(numbers) == value]
            ended = [numbers for numbers in positions if min(value * number for number in numbers) >= 0]
            classes = {tuple(numbers): reached_by_flips(TRIANGLE, numbers, 1500) for numbers in ended}
            for position in positions:
                homes = [numbers for numbers in ended if tuple(position) in classes[tuple(numbers)]]
                self.assertEqual(len(homes), 1)
                for other in ended:
                    self.check_pair(TRIANGLE, position, other, other == homes[0])
                    self.check_pair(TRIANGLE, other, position, other == homes[0])

    def test_different_values(self):
        for value in (2, -1, 0, GREAT):
            self.assertIs(linked(TRIANGLE, [1, 0, 0], with_value([[1] * 3], [0, 5, 0], [value])), False)
            self.assertIsNone(link(TRIANGLE, [1, 0, 0], with_value([[1] * 3], [0, 5, 0], [value])))

    def test_one_component_is_not_linked(self):
        graph = side_by_side(PAIR, TRIANGLE, path(1))
        self.assertIs(linked(graph, [-1, -2, 3, -1, -1, 5], [2, 1, 1, 0, 0, -5]), True)
        for other in ([2, 2, 1, 0, 0, -5], [2, 1, 0, 1, 0, -5], [2, 1, 1, 0, 0, 4], [2, 1, 1, 0, 1, -5]):
            self.check_pair(graph, [-1, -2, 3, -1, -1, 5], other, False)
            self.check_pair(graph, other, [-1, -2, 3, -1, -1, 5], False)

    def test_great_numbers(self):
        chance = random.Random(47)
        for graph, weights_list in TAME:
            for position in positions_of_all_values(graph, weights_list, chance):
                other = shuffled(graph, position, 40, chance)
                self.assertIs(linked(graph, position, other), True)
                for node in chance.sample(range(graph.size()), 1):
                    changed = list(other)
                    changed[node] += 1
                    expected = canonical(graph, changed) == canonical(graph, position)
                    self.assertIs(linked(graph, position, changed), expected)
                    self.assertIs(linked(graph, changed, position), expected)
                    if any(weights[node] for weights in weights_list):
                        self.assertIs(expected, False)
                    if not expected:
                        self.assertIsNone(link(graph, position, changed))

    def test_a_jump_links(self):
        for jump in itertools.product(range(-2, 3), repeat=3):
            for position in ([2, 0, -1], [-3, 1, 1], [4, -4, 0], [1, 1, 0]):
                reached = jumped(TRIANGLE, position, list(jump))
                self.check_pair(TRIANGLE, position, reached, True)
        chance = random.Random(48)
        for graph, weights_list in TAME:
            free = [any(weights[node] for weights in weights_list) for node in range(graph.size())]
            for bound, great in itertools.product((3, GREAT), (2, 10 ** 20)):
                position = [chance.randint(-bound, bound) for node in range(graph.size())]
                jump = [chance.randint(-great, great) if is_free else 0 for is_free in free]
                self.assertIs(linked(graph, position, jumped(graph, position, jump)), True)

    def test_order_of_the_exceptions(self):
        for graph in (KITE, path(4)):
            for position in no_positions(4):
                for function in (linked, link):
                    for other in ([1, 2, 3, 4], None, [True] * 4):
                        self.assertIs(raised(InvalidPosition, function, graph, position, other).value, position)
                    self.assertIs(raised(InvalidPosition, function, graph, [1, 2, 3, 4], position).value, position)


class TestLink(unittest.TestCase):
    def check_link(self, graph, weights_list, position, other):
        found = link(graph, position, other)
        numbers = tuple(position)
        for node in found:
            numbers = flipped(near_of(graph), numbers, node)
        self.assertEqual(list(numbers), other)
        self.assertIs(is_link(graph, position, other, found), True)
        most = most_flips(graph, weights_list, position) + most_flips(graph, weights_list, other)
        self.assertLessEqual(len(found), most)
        self.assertLessEqual(len(found), 20000)
        return found

    def test_links(self):
        chance = random.Random(49)
        done = 0
        for graph, weights_list in TAME:
            for values in values_for(weights_list, chance):
                position = with_value(weights_list, [chance.randint(-2, 2) for node in range(graph.size())], values)
                other = shuffled(graph, position, chance.choice((1, 3, 30)), chance)
                needed = most_flips(graph, weights_list, position) + most_flips(graph, weights_list, other)
                if needed <= 20000:
                    self.check_link(graph, weights_list, position, other)
                    self.check_link(graph, weights_list, other, position)
                    done += 1
        self.assertGreater(done, 200)

    def test_equal_positions(self):
        for graph, weights_list in TAME:
            for position in ([1] * graph.size(), [0] * graph.size(), [-3] * graph.size()):
                self.check_link(graph, weights_list, position, list(position))
                self.check_link(graph, weights_list, position, position)

    def test_great_numbers(self):
        chance = random.Random(50)
        for graph in finite_graphs():
            position = [chance.randint(-GREAT, GREAT) for node in range(graph.size())]
            self.check_link(graph, [], position, shuffled(graph, position, 200, chance))
        for graph, weights in balanced_graphs():
            for value in (0, GREAT ** 2, -GREAT ** 2):
                position = with_value([weights], [chance.randint(-9, 9) * GREAT for node in weights], [value])
                other = shuffled(graph, position, 50, chance)
                self.check_link(graph, [weights], position, other)

    def test_to_the_canonical_position(self):
        for position in ([1000, 1, -1000], [1, 0, -1], [-1, -1, 1], [-1000, -1, 1000]):
            self.check_link(TRIANGLE, [[1] * 3], position, canonical(TRIANGLE, position))
            self.check_link(TRIANGLE, [[1] * 3], canonical(TRIANGLE, position), position)

    def test_the_shortest_way_to_an_end(self):
        for graph, weights_list, position in [(PAIR, [], [-1, -2]), (TRIANGLE, [[1] * 3], [50, 1, -50]),
                                              (star(4), [], [-GREAT, 2, -3, 1])]:
            end, nodes = run(graph, position, 10000)
            self.assertTrue(has_ended(graph, end))
            self.assertEqual(len(self.check_link(graph, weights_list, position, end)), len(nodes))

    def test_20000_nodes(self):
        graph = side_by_side(TRIANGLE, path(1), path(1))
        weights_list = [[1, 1, 1, 0, 0]]
        long = [10000, 1, -10000]
        end = canonical(TRIANGLE, long)
        self.assertEqual(steps(TRIANGLE, long), 19999)
        self.assertEqual(len(self.check_link(graph, weights_list, long + [-1, 5], end + [-1, 5])), 19999)
        self.assertEqual(len(self.check_link(graph, weights_list, long + [-1, 5], end + [1, 5])), 20000)
        self.assertEqual(len(self.check_link(graph, weights_list, end + [1, 5], long + [-1, 5])), 20000)
        self.assertEqual(raised(TooMany, link, graph, long + [-1, 5], end + [1, -5]).value, 20001)
        self.assertEqual(raised(TooMany, link, graph, end + [1, 5], long + [-1, -5]).value, 20001)

    def test_too_many(self):
        for position in ([3 * 10 ** 20, 1, -3 * 10 ** 20], [GREAT, 2 - GREAT, 0], [-GREAT, 0, GREAT - 5]):
            other = canonical(TRIANGLE, position)
            for one, two in ((position, other), (other, position)):
                self.assertIs(linked(TRIANGLE, one, two), True)
                self.assertGreater(raised(TooMany, link, TRIANGLE, one, two).value, 20000)
            other[0] += 1
            self.assertIsNone(link(TRIANGLE, position, other))
            other[1] -= 1
            self.assertIsNone(link(TRIANGLE, position, other))

    def test_equal_components_are_left_out(self):
        graph = side_by_side(TRIANGLE, PAIR)
        position = [GREAT, 1, -GREAT]
        self.assertEqual(link(graph, position + [-1, 3], position + [1, 2]), [3])
        self.assertEqual(link(graph, position + [-1, 3], position + [-1, 3]), [])

    def test_arguments_do_not_change_and_results_are_new(self):
        for position, other in [([2, 0, -1], [0, 1, 0]), ([1, 0, -1], [-1, 1, 0]), ([-2, 0, 1], [0, -1, 0])]:
            before = copy.deepcopy([position, other])
            first = list(self.check_link(TRIANGLE, [[1] * 3], position, other))
            link(TRIANGLE, position, other).append(9)
            linked(TRIANGLE, position, other)
            is_link(TRIANGLE, position, other, first)
            self.assertEqual([position, other], before)
            self.assertEqual(link(TRIANGLE, position, other), first)


class TestIsLink(unittest.TestCase):
    def test_the_empty_list(self):
        for graph in (PAIR, TRIANGLE, KITE, GRID, MIXED, Graph(16)):
            size = graph.size()
            for position in ([0] * size, [-1] * size, [GREAT] * size):
                other = position[1:] + [7]
                self.assertIs(is_link(graph, position, list(position), []), True)
                self.assertIs(is_link(graph, position, position, []), True)
                self.assertIs(is_link(graph, position, other, []), False)
                self.assertIs(is_link(graph, other, position, []), False)

    def test_lists_of_flips(self):
        chance = random.Random(51)
        for graph in [PAIR, TRIANGLE, KITE, GRID, MIXED, star(6), Graph(9, complete_edges(9)), legs(1, 2, 4)]:
            for bound in (3, GREAT):
                position = [chance.randint(-bound, bound) for node in range(graph.size())]
                nodes = [chance.randrange(graph.size()) for turn in range(12)]
                other = position
                for node in nodes:
                    other = flip(graph, other, node)
                self.assertIs(is_link(graph, position, other, nodes), True)
                self.assertIs(is_link(graph, other, position, nodes[::-1]), True)
                self.assertIs(is_link(graph, position, other, nodes + [0, 0]), True)
                for changed in self.changed_lists(graph, nodes):
                    expected = position
                    for node in changed:
                        expected = flip(graph, expected, node)
                    self.assertIs(is_link(graph, position, other, changed), expected == other)

    def changed_lists(self, graph, nodes):
        """Return the list with a node more, a node less, one exchanged, two in the other order."""
        for place in range(len(nodes)):
            yield nodes[:place] + nodes[place + 1:]
            for node in range(graph.size()):
                yield nodes[:place] + [node] + nodes[place:]
                yield nodes[:place] + [node] + nodes[place + 1:]
            yield nodes[:place] + nodes[place:place + 2][::-1] + nodes[place + 2:]

    def test_a_list_that_leads_elsewhere(self):
        for nodes in ([1], [0, 0], [0, 1], [2, 0], [0, 0, 1]):
            self.assertIs(is_link(TRIANGLE, [1, 0, -1], [-1, 1, 0], nodes), False)
        for nodes in ([0], [0, 0, 0], [1, 1, 0], [2, 0, 0, 2, 0]):
            self.assertIs(is_link(TRIANGLE, [1, 0, -1], [-1, 1, 0], nodes), True)
        self.assertIs(is_link(KITE, [1, 2, 3, 4], [1, 2, 7, -4], [3]), True)
        self.assertIs(is_link(KITE, [1, 2, 3, 4], [1, 2, 7, 4], [3]), False)

    def test_what_is_no_list_of_nodes(self):
        position, other = [1, 0, -1], [-1, 1, 0]
        things = no_node_lists(3) + NOT_INTEGERS[:2] + [[False], [0, True, True], [0.0], b"\x00", [None], [3], [-3],
                                                        [0, 3, 3], {0: 0}, (0, 0), [(0,)], [[]]]
        for thing in things:
            self.assertIs(is_link(TRIANGLE, position, other, thing), False)
            self.assertIs(is_link(TRIANGLE, [0, 0, 0], [0, 0, 0], thing), False)
        for thing in no_node_lists(4) + [[4], [0, 4], [False], [True]]:
            self.assertIs(is_link(KITE, [0, 0, 0, 0], [0, 0, 0, 0], thing), False)

    def test_order_of_the_exceptions(self):
        for position in no_positions(4):
            for thing in ([], [0], None, [9]):
                self.assertIs(raised(InvalidPosition, is_link, KITE, position, position, thing).value, position)
                self.assertIs(raised(InvalidPosition, is_link, KITE, position, [None], thing).value, position)
                self.assertIs(raised(InvalidPosition, is_link, KITE, [1, 2, 3, 4], position, thing).value, position)


if __name__ == "__main__":
    unittest.main()
