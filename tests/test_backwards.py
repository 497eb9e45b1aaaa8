"""Backwards from an end, and the orders of plays: promise [23], and what [3], [4] (f) say of it."""

import inspect
import itertools
import math
import random
import unittest

from firenegatives import backwards
from firenegatives.backwards import orders, start_count, starts
from firenegatives.errors import InvalidLimit, InvalidPosition, NotEnded, TooMany, Undecided
from firenegatives.firing import run
from firenegatives.forms import closed_list
from firenegatives.graphs import Graph
from firenegatives.lengths import steps
from tests.components import TAME, WILD_BESIDE
from tests.judges import near_of
from tests.samples import (
    GREAT, GRID, KITE, NOT_INTEGERS, balanced_graphs, complete_edges, cycle, finite_graphs, forked, legs, moved_graph,
    moved_list, no_positions, part_of, path, raised, side_by_side, some_order, star,
)
from tests.searches import ABOUT_2000, flipped, reached_by_plays

PAIR = path(2)
TRIANGLE = cycle(3)
E6, E7, E8 = legs(1, 2, 2), legs(1, 2, 3), legs(1, 2, 4)
# Ends and lengths with the number of positions; for no smaller length it is more than 2000.
AROUND_2000 = [
    (forked(11), [1, 0, 0, 0, 0, 1, 1, 0, 0, 0, 0], 10, 1999),
    (side_by_side(path(3), cycle(6)), [0, 1, 0] + [0, 0, 0, 0, 1, 1], 17, 2000),
    (side_by_side(path(4), forked(7)), [0, 0, 1, 1] + [0, 0, 1, 1, 1, 1, 1], 7, 2000),
    (side_by_side(path(6), path(8)), [0, 0, 0, 0, 1, 0] + [0, 0, 0, 1, 0, 0, 1, 0], 18, 2000),
    (cycle(9), [0, 0, 1, 0, 1, 0, 0, 1, 0], 11, 2001),
]


def degrees_of(part):
    """Return the degrees that [23] states, told apart by the number of nodes and of forms in the closed list."""
    size, forms = part.size(), len(closed_list(part))
    if 2 * forms == size * (size + 1):
        return list(range(2, size + 2))
    if forms == size * (size - 1):
        return [2 * number for number in range(1, size)] + [size]
    return {36: [2, 5, 6, 8, 9, 12], 63: [2, 6, 8, 10, 12, 14, 18], 120: [2, 8, 12, 14, 18, 20, 24, 30]}[forms]


def inner_degrees(graph, nodes):
    """Return the degrees of the components of the subgraph on some nodes."""
    if not nodes:
        return []
    part = part_of(graph, nodes)
    return [degree for component in part.components() for degree in degrees_of(part_of(part, component))]


def times(one, two):
    """Return the product of two series, as far as both are known."""
    return [sum(one[place] * two[rest - place] for place in range(rest + 1)) for rest in range(len(one))]


def without(series, factor):
    """Return the series whose product with the factor, which begins with 1, is the given one."""
    found = []
    for place, number in enumerate(series):
        found.append(number - sum(found[rest] * factor[place - rest] for rest in range(place)))
    return found


def block(degree, length):
    """Return 1 + q + .. + q^(degree - 1)."""
    return [int(place < degree) for place in range(length + 1)]


def series_of(graph, weights_list, end, length):
    """Return the coefficients up to q^length of the series that [23] states."""
    series = [1] + [0] * length
    for component in graph.components():
        zeros = [node for node in component if end[node] == 0]
        if len(zeros) == len(component):
            continue
        kept = component
        for weights in weights_list:
            if weights[component[0]]:
                left_out = [node for node in component if weights[node] == 1][-1]
                kept = [node for node in component if node != left_out]
        for degree in inner_degrees(graph, kept):
            series = times(series, block(degree, length))
            if len(kept) < len(component):
                series = without(series, [1] + [-int(place == degree - 1) for place in range(1, length + 1)])
        for degree in inner_degrees(graph, zeros):
            series = without(series, block(degree, length))
    return series


def ends_on(graph, chance):
    """Return positions that have ended: with zeros at many, some, no places, and great numbers."""
    size = graph.size()
    yield [1] * size
    yield [GREAT] * size
    for chances in (2, 3, 6):
        yield [chance.randrange(chances) * chance.choice((1, 1, GREAT)) for node in range(size)]
    yield [int(node == size // 2) for node in range(size)]
    yield [int(node != size // 3) for node in range(size)]


def layers_before(graph, end, length, most):
    """Return the positions before an end for 0, 1, .. firings, or fewer lists if one has more than most positions."""
    near = near_of(graph)
    layers = [{tuple(end)}]
    while len(layers) <= length and len(layers[-1]) <= most:
        layers.append({flipped(near, numbers, node) for numbers in layers[-1]
                       for node, number in enumerate(numbers) if number > 0})
    return layers


def count_of_plays(graph, position):
    """Return the number of complete plays, one after the other."""
    near = near_of(graph)
    negative = [node for node, number in enumerate(position) if number < 0]
    return sum(count_of_plays(graph, flipped(near, position, node)) for node in negative) if negative else 1


class TestExamples(unittest.TestCase):
    def test_example(self):
        self.assertEqual(
            [starts(PAIR, [2, 1], 1), [start_count(PAIR, [2, 1], length) for length in range(4)],
             orders(PAIR, [-1, -2])],
            [[[-2, 3], [3, -1]], [1, 2, 2, 1], 2])


class TestInterface(unittest.TestCase):
    SIGNATURES = {"starts": "(graph, end, length)", "start_count": "(graph, end, length)",
                  "orders": "(graph, position)"}

    def test_argument_names(self):
        for name, signature in self.SIGNATURES.items():
            function = getattr(backwards, name)
            self.assertEqual(str(inspect.signature(function)), signature, name)
            self.assertEqual(function.__module__, "firenegatives.backwards", name)

    def test_keywords(self):
        self.assertEqual(starts(length=2, end=[2, 1], graph=PAIR), [[-3, 2], [1, -3]])
        self.assertEqual(start_count(length=2, end=[2, 1], graph=PAIR), 2)
        self.assertEqual(orders(position=[-1, -2], graph=PAIR), 2)


class TestStarts(unittest.TestCase):
    def test_from_each_of_them_and_from_no_other(self):
        # No number that is reached backwards from these ends in so few firings is beyond the bound.
        for graph, end, length, bound in [(path(1), [3], 2, 5), (PAIR, [2, 1], 4, 5), (PAIR, [0, 2], 3, 5),
                                          (path(3), [1, 0, 1], 6, 4), (path(3), [1, 1, 1], 4, 5),
                                          (Graph(3), [1, 2, 0], 3, 4), (TRIANGLE, [1, 0, 1], 3, 8),
                                          (TRIANGLE, [0, 1, 0], 4, 6), (star(4), [0, 1, 0, 1], 3, 4),
                                          (KITE, [0, 0, 1, 0], 3, 4)]:
            found = [[] for turn in range(length + 1)]
            for numbers in itertools.product(range(-bound, bound + 1), repeat=graph.size()):
                reached, nodes = run(graph, list(numbers), length + 1)
                if reached == end and len(nodes) <= length:
                    found[len(nodes)].append(list(numbers))
            for turn in range(length + 1):
                self.assertEqual(starts(graph, end, turn), found[turn], (graph, end, turn))
                for position in found[turn]:
                    self.assertLess(max(abs(number) for number in position), bound)

    def test_against_firing_backwards(self):
        chance = random.Random(33)
        shapes = [graph for graph, weights_list in TAME] + [KITE, GRID, star(6), Graph(9, complete_edges(9)), Graph(16)]
        for graph in shapes:
            for end in ends_on(graph, chance):
                layers = layers_before(graph, end, 4, 300)
                for length, layer in enumerate(layers):
                    if len(layer) > 2000:
                        self.assertEqual(raised(TooMany, starts, graph, end, length).value, 2000)
                    else:
                        self.assertEqual(starts(graph, end, length), [list(numbers) for numbers in sorted(layer)])

    def test_each_plays_to_the_end(self):
        for graph, end, length in [(path(5), [1, 2, 1, 0, 3], 7), (E8, [0] * 7 + [1], 20),
                                   (cycle(6), [0, 1, 0, 0, 2, 0], 9), (KITE, [1, 0, 2, 0], 8),
                                   (star(5), [0, 1, 0, GREAT, 0], 10)]:
            found = starts(graph, end, length)
            self.assertEqual(found, sorted(found))
            self.assertGreater(len(found), 5)
            for position in found:
                reached, nodes = run(graph, position, 100)
                self.assertEqual([reached, len(nodes)], [end, length])

    def test_lengths_0_and_60(self):
        for graph, end in [(PAIR, [2, 1]), (TRIANGLE, [1, 0, 0]), (KITE, [1, 2, 3, 4]), (path(3), [0, 0, 0])]:
            self.assertEqual(starts(graph, end, 0), [end])
        self.assertEqual(starts(PAIR, [2, 1], 60), [])
        self.assertEqual(starts(path(3), [0, 0, 0], 60), [])
        found = starts(TRIANGLE, [1, 0, 0], 60)
        self.assertEqual(len(found), start_count(TRIANGLE, [1, 0, 0], 60))
        for position in found:
            self.assertEqual(steps(TRIANGLE, position), 60)
            self.assertEqual(run(TRIANGLE, position, 60)[0], [1, 0, 0])

    def test_2000_positions(self):
        # The counts by length are 1, 15, 105, 455, 1365, 3003, ... and 1, 16, 120, 560, 1820, 4368, ..
        self.assertEqual(len(starts(Graph(15), [1] * 15, 4)), 1365)
        self.assertEqual(len(starts(Graph(16), [GREAT] * 16, 4)), 1820)
        for length in (5, 6, 15, 16, 17, 60):
            self.assertEqual(raised(TooMany, starts, Graph(15), [1] * 15, length).value, 2000)
            self.assertEqual(raised(TooMany, starts, Graph(16), [GREAT] * 16, length).value, 2000)
        self.assertEqual(len(starts(Graph(16), [1] * 13 + [0] * 3, 5)), 1287)
        self.assertEqual(len(starts(Graph(16), [1] * 13 + [0] * 3, 13)), 1)

    def test_around_2000_positions(self):
        found = {1999: 0, 2000: 0, 2001: 0}
        for graph, end, length, count in AROUND_2000:
            layers = layers_before(graph, end, length, 2001)
            self.assertEqual([len(layers), len(layers[-1])], [length + 1, count])
            self.assertLessEqual(max(len(layer) for layer in layers[:-1]), 2000)
            found[count] += 1
            if count > 2000:
                self.assertEqual(raised(TooMany, starts, graph, end, length).value, 2000)
                self.assertEqual(raised(TooMany, starts, graph, end, length + 1).value, 2000)
            else:
                self.assertEqual(starts(graph, end, length), [list(numbers) for numbers in sorted(layers[-1])])
        self.assertGreater(min(found.values()), 0)

    def test_2000_positions_and_never_more(self):
        graph, end, most, count = AROUND_2000[3]
        for length in (most - 1, most, most + 1, 20, 30, 60):
            self.assertEqual(len(starts(graph, end, length)), start_count(graph, end, length))

    def test_invalid_lengths(self):
        for length in [-1, 61, GREAT, -GREAT] + NOT_INTEGERS:
            for graph, end in [(PAIR, [2, 1]), (PAIR, [-1, 1]), (KITE, [1, 2, 3, 4]), (Graph(16), [1] * 16)]:
                self.assertIs(raised(InvalidLimit, starts, graph, end, length).value, length)
                self.assertIs(raised(InvalidLimit, start_count, graph, end, length).value, length)

    def test_not_ended(self):
        for graph, end in [(PAIR, [2, -1]), (PAIR, [-1, 0]), (KITE, [1, 2, -GREAT, 4]), (TRIANGLE, [1, 0, -1])]:
            for length in (0, 1, 60):
                self.assertIs(raised(NotEnded, starts, graph, end, length).value, end)
                self.assertIs(raised(NotEnded, start_count, graph, end, length).value, end)

    def test_invalid_positions(self):
        for end in no_positions(3):
            for length in (1, -1, None):
                self.assertIs(raised(InvalidPosition, starts, TRIANGLE, end, length).value, end)
                self.assertIs(raised(InvalidPosition, start_count, TRIANGLE, end, length).value, end)

    def test_arguments_do_not_change_and_results_are_new(self):
        end = [2, 1]
        for length in (0, 1):
            found = starts(PAIR, end, length)
            expected = [list(position) for position in found]
            found[0].append(9)
            found.append([])
            self.assertEqual([end, starts(PAIR, end, length)], [[2, 1], expected])
        start_count(PAIR, end, 2)
        self.assertEqual(end, [2, 1])


class TestStartCount(unittest.TestCase):
    def test_the_length_of_starts(self):
        chance = random.Random(34)
        for graph, weights_list in TAME:
            for end in ends_on(graph, chance):
                layers = layers_before(graph, end, 60 if graph.size() < 5 else 8, 400)
                for length, layer in enumerate(layers):
                    self.assertEqual(start_count(graph, end, length), len(layer), (graph, end, length))

    def test_the_coefficients_of_the_series(self):
        chance = random.Random(35)
        for number, (graph, weights_list) in enumerate(TAME):
            order = some_order(graph.size(), number)
            moved = moved_graph(graph, order)
            for end in ends_on(graph, chance):
                series = series_of(graph, weights_list, end, 60)
                for length in (0, 1, 2, 3, 17, 59, 60):
                    self.assertEqual(start_count(graph, end, length), series[length], (graph, end, length))
                self.assertEqual(start_count(moved, moved_list(end, order), 60), series[60])

    def test_zeros_everywhere(self):
        chance = random.Random(36)
        graphs = [path(7), path(8), forked(8), cycle(8), E6, E7, E8, legs(2, 2, 2), legs(1, 1, 4), star(5),
                  legs(1, 3, 3)]
        weights_list = {repr(graph): weights for graph, weights in balanced_graphs()}
        for graph in graphs:
            known = [weights_list[repr(graph)]] if repr(graph) in weights_list else []
            for turn in range(12):
                end = [chance.randrange(2) for node in range(graph.size())]
                series = series_of(graph, known, end, 60)
                for length in (5, 30, 60):
                    self.assertEqual(start_count(graph, end, length), series[length])

    def test_ends_of_zeros_alone(self):
        for graph, weights_list in TAME:
            for length in (0, 1, 2, 60):
                self.assertEqual(start_count(graph, [0] * graph.size(), length), int(length == 0))
        graph = side_by_side(PAIR, TRIANGLE, path(1))
        self.assertEqual([start_count(graph, [2, 1] + [0] * 4, length) for length in range(5)], [1, 2, 2, 1, 0])
        self.assertEqual([start_count(graph, [0, 0, 1, 0, 1, 0], length) for length in range(5)],
                         [start_count(TRIANGLE, [1, 0, 1], length) for length in range(5)])

    def test_all_positions_that_lead_to_an_end(self):
        # Without zeros the longest play has as many firings as there are forms, and there is one such position.
        for graph, count in [(path(3), 24), (path(10), math.factorial(11)), (legs(1, 1, 2), 2 ** 4 * math.factorial(5)),
                             (legs(1, 1, 4), 2 ** 6 * math.factorial(7)), (E6, 51840), (Graph(16), 2 ** 16)]:
            found = [start_count(graph, [1] * graph.size(), length) for length in range(61)]
            self.assertEqual(sum(found), count)
            longest = len(closed_list(graph))
            self.assertEqual(found[longest], 1)
            self.assertEqual(found[:longest + 1], found[longest::-1])
            self.assertEqual(found[longest + 1:], [0] * (60 - longest))
        found = [start_count(E7, [5] * 7, length) for length in range(61)]
        self.assertEqual(found[3:], found[60:2:-1])
        self.assertEqual(2 * sum(found[:32]), 2903040)

    def test_sums_with_alternating_signs(self):
        for graph in [path(1), path(2), path(4), path(6), legs(1, 1, 1), legs(1, 1, 3), E6,
                      side_by_side(path(2), path(3)), Graph(5), side_by_side(legs(1, 1, 1), path(1))]:
            longest = len(closed_list(graph))
            for length in (0, 1, 2, 3, longest - 1, longest, longest + 1):
                total = 0
                for end in itertools.product((0, 1), repeat=graph.size()):
                    total += (-1) ** end.count(0) * start_count(graph, list(end), length)
                self.assertEqual(total, int(length == longest), (graph, length))

    def test_great_counts(self):
        self.assertEqual(start_count(Graph(16), [1] * 16, 8), math.comb(16, 8))
        # The counts by length are the same from either side, and all together they are the order of the group E8.
        found = [start_count(E8, [1] * 8, length) for length in range(61)]
        self.assertEqual(2 * sum(found) - found[60], 696729600)
        five = side_by_side(*[TRIANGLE] * 5)
        single = [start_count(TRIANGLE, [1, 1, 1], length) for length in range(61)]
        series = [1] + [0] * 60
        for turn in range(5):
            series = times(series, single)
        self.assertEqual(single[:5], [1, 3, 6, 9, 12])
        self.assertEqual(start_count(five, [1] * 15, 60), series[60])

    def test_undecided(self):
        for graph, component in WILD_BESIDE:
            size = graph.size()
            for end in ([0] * size, [1] * size, [int(node not in component) for node in range(size)]):
                for length in (0, 1, 60):
                    caught = raised(Undecided, start_count, graph, end, length)
                    self.assertEqual(caught.value, component)
                    caught.value.append(99)
                    self.assertEqual(raised(Undecided, start_count, graph, end, length).value, component)

    def test_order_of_the_exceptions(self):
        for length in (-1, 61, True, None):
            self.assertIs(raised(InvalidLimit, start_count, KITE, [-1, 0, 0, 0], length).value, length)
            self.assertIs(raised(InvalidLimit, starts, Graph(16), [-1] * 16, length).value, length)
        end = [-1, 0, 0, 0]
        self.assertIs(raised(NotEnded, start_count, KITE, end, 60).value, end)
        end = [5] * 15 + [-1]
        self.assertIs(raised(NotEnded, starts, Graph(16), end, 60).value, end)
        self.assertEqual(raised(Undecided, start_count, KITE, [0] * 4, 0).value, [0, 1, 2, 3])


class TestOrders(unittest.TestCase):
    def test_against_counting(self):
        for graph in (path(2), path(3), star(4), TRIANGLE, cycle(4)):
            for numbers in itertools.product((-2, -1, 0, 1), repeat=graph.size()):
                if len(graph) == graph.size() and sum(numbers) < 0:
                    continue
                if len(graph) == graph.size() and sum(numbers) == 0 and any(numbers):
                    self.assertEqual(orders(graph, list(numbers)), 0)
                else:
                    self.assertEqual(orders(graph, list(numbers)), count_of_plays(graph, numbers))
        for graph, position in [(KITE, [1, -1, 5, 0]), (KITE, [-1, -1, 9, -2]), (path(4), [-GREAT, 3, GREAT - 9, -1]),
                                (side_by_side(path(2), path(2)), [-1, -2, -1, -2]), (Graph(4), [-1, 0, -3, -2]),
                                (moved_graph(path(4), [2, 0, 3, 1]), [-1, -1, 1, -1]), (TRIANGLE, [5, -2, -2])]:
            self.assertEqual(orders(graph, position), count_of_plays(graph, position))

    def test_known_numbers(self):
        # From all -1 on a path the plays are the ways to sort by exchanging neighbours.
        for size, count in [(1, 1), (2, 2), (3, 16), (4, 768), (5, 292864)]:
            self.assertEqual(orders(path(size), [-1] * size), count)
            self.assertEqual(orders(path(size), [-GREAT] * size), count)
        self.assertEqual(orders(Graph(10), [-1] * 10), math.factorial(10))
        self.assertEqual(orders(side_by_side(path(3), path(2), Graph(2)), [-1] * 7),
                         16 * 2 * math.factorial(11) // (math.factorial(6) * math.factorial(3)))

    def test_positions_that_have_ended(self):
        for graph in [path(1), GRID, KITE, Graph(16), cycle(16)] + finite_graphs()[:3]:
            self.assertEqual(orders(graph, [0] * graph.size()), 1)
            self.assertEqual(orders(graph, [GREAT] * graph.size()), 1)

    def test_no_play_ends(self):
        for graph, position in [(TRIANGLE, [1, 0, -1]), (cycle(5), [GREAT, -GREAT, 0, 0, 0]),
                                (star(5), [1, -1, -1, 0, 0]),
                                (side_by_side(Graph(2), TRIANGLE), [1, -1, 2, -2, 0])]:
            self.assertEqual(orders(graph, position), 0)

    def test_2000_positions(self):
        for graph, position, count, ends in ABOUT_2000:
            self.assertEqual(len(reached_by_plays(graph, position)), count)
            if count > 2000:
                self.assertEqual(raised(TooMany, orders, graph, position).value, 2000)
            elif graph == TRIANGLE:
                self.assertEqual(orders(graph, position), 1)
            else:
                several = math.factorial(16) // math.factorial(4) ** 3 if ends else 0
                self.assertEqual(orders(graph, position), several)

    def test_too_many_also_if_no_play_ends(self):
        for graph, position in [(TRIANGLE, [-1, 0, 0]), (KITE, [-1, 0, 0, 0]), (GRID, [-1] * 16),
                                (Graph(11), [-1] * 11), (path(16), [-GREAT] * 16),
                                (side_by_side(Graph(11), TRIANGLE), [-1] * 11 + [1, 0, -1])]:
            self.assertEqual(raised(TooMany, orders, graph, position).value, 2000)

    def test_invalid_positions(self):
        for position in no_positions(3):
            self.assertIs(raised(InvalidPosition, orders, TRIANGLE, position).value, position)

    def test_arguments_do_not_change(self):
        position = [-1, -2]
        orders(PAIR, position)
        self.assertEqual(position, [-1, -2])


if __name__ == "__main__":
    unittest.main()
