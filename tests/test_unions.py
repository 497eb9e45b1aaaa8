"""Graphs that are put together or renumbered: promise [26], and what [3], [4] (i), [20] say of them."""

import copy
import inspect
import itertools
import random
import unittest

from firenegatives import unions
from firenegatives.backwards import orders, start_count, starts
from firenegatives.errors import InvalidOrder, InvalidPosition, InvalidSize, NotConnected, TooMany
from firenegatives.families import classify, is_certificate, kind
from firenegatives.firing import has_ended, negatives, run
from firenegatives.forms import closed_list, negative_forms
from firenegatives.graphs import Graph
from firenegatives.jumps import settle
from firenegatives.lengths import steps, totals
from firenegatives.links import canonical, linked
from firenegatives.outcomes import outcome
from firenegatives.rounds import fewest_rounds
from firenegatives.unions import renumbered, renumbered_position, union
from tests.components import TAME, positions_with
from tests.judges import value_of
from tests.samples import (
    GREAT, GRID, KITE, NOT_INTEGERS, balanced_graphs, complete_edges, cycle, finite_graphs, legs, no_positions, path,
    raised, some_order, star, wild_graphs,
)

TRIANGLE = cycle(3)
TWENTY = complete_edges(6) + [(0, 6), (1, 6), (2, 6), (3, 6), (4, 6)]
NO_ORDERS = [[], [0, 1], [0, 1, 2, 3], [0, 0, 1], [1, 2, 3], [0, 1, 1], [2, 2, 2], [0, 1, -1], [0, 2, 3], [-1, -2, -3],
             [0, 1, GREAT], (0, 1, 2), range(3), iter([0, 1, 2]), {0: 0, 1: 1, 2: 2}, {0, 1, 2}, "012", b"\x00\x01\x02",
             [[0, 1, 2]], [False, True, 2], [0, True, 2], [0, 1, 2.0], [0, 1, "2"], [0, 1, None], [(0,), (1,), (2,)],
             None, 0, 3, True, object(), len, Graph(3)] + [[entry, 1, 2] for entry in NOT_INTEGERS]


def inverse(order):
    return [order.index(number) for number in range(len(order))]


def moved(numbers, order):
    """Return the list in which the number of node k stands at order[k]."""
    return [numbers[order.index(node)] for node in range(len(numbers))]


def pieces():
    """Return pairs of graphs that fit together, of all kinds of components."""
    return [(path(1), path(1)), (path(3), path(2)), (path(2), TRIANGLE), (TRIANGLE, path(2)), (TRIANGLE, cycle(4)),
            (legs(1, 2, 2), star(5)), (KITE, path(3)), (star(5), KITE), (KITE, KITE), (Graph(3), cycle(5)),
            (union(path(2), TRIANGLE), legs(1, 1, 1)), (legs(1, 2, 4), legs(2, 2, 2))]


def positions_for(graph, chance):
    """Return small and great positions, some of which end."""
    size = graph.size()
    for bound in (3, GREAT):
        yield [chance.randint(-bound, bound) for node in range(size)]
        yield [chance.randint(-bound, 4 * bound) for node in range(size)]
    yield [-1 if node == size // 2 else 7 for node in range(size)]
    yield [0] * size


class TestExamples(unittest.TestCase):
    def test_example(self):
        three = Graph(3, [(0, 1), (1, 2)])
        self.assertEqual(
            [repr(union(three, Graph(2, [(0, 1)]))), repr(renumbered(three, [2, 0, 1])),
             renumbered_position(three, [5, 6, 7], [2, 0, 1])],
            ["Graph(5, [(0, 1), (1, 2), (3, 4)])", "Graph(3, [(0, 1), (0, 2)])", [6, 7, 5]])


class TestInterface(unittest.TestCase):
    SIGNATURES = {"union": "(graph, other)", "renumbered": "(graph, order)",
                  "renumbered_position": "(graph, position, order)"}

    def test_argument_names(self):
        for name, signature in self.SIGNATURES.items():
            function = getattr(unions, name)
            self.assertEqual(str(inspect.signature(function)), signature, name)
            self.assertEqual(function.__module__, "firenegatives.unions", name)

    def test_keywords(self):
        self.assertEqual(union(other=path(2), graph=path(1)), Graph(3, [(1, 2)]))
        self.assertEqual(renumbered(order=[1, 2, 0], graph=path(3)), Graph(3, [(0, 2), (1, 2)]))
        self.assertEqual(renumbered_position(order=[1, 2, 0], position=[7, 8, 9], graph=path(3)), [9, 7, 8])


class TestUnion(unittest.TestCase):
    def check_union(self, graph, other):
        whole, size = union(graph, other), graph.size()
        self.assertIs(whole.__class__, Graph)
        self.assertEqual(whole.size(), size + other.size())
        self.assertEqual(whole.edges(), graph.edges() + [(one + size, two + size) for one, two in other.edges()])
        self.assertEqual(whole.components(), graph.components() + [[node + size for node in component]
                                                                   for component in other.components()])
        for node in range(size):
            self.assertEqual(whole.neighbours(node), graph.neighbours(node))
        for node in range(other.size()):
            self.assertEqual(whole.neighbours(size + node), [size + near for near in other.neighbours(node)])

    def test_by_the_definition(self):
        for one, two in itertools.product(range(1, 16), range(1, 16)):
            if one + two <= 16:
                self.check_union(path(one), Graph(two))
                self.check_union(Graph(one), star(two))
                if two > 2:
                    self.check_union(star(one), cycle(two))
        for graph, other in pieces():
            self.check_union(graph, other)
            self.check_union(other, graph)

    def test_with_itself(self):
        graph = Graph(8, [(7, 0), (2, 3)])
        self.check_union(graph, graph)
        self.assertEqual(graph, Graph(8, [(0, 7), (2, 3)]))

    def test_the_order_matters(self):
        self.assertEqual(union(path(2), Graph(1)), Graph(3, [(0, 1)]))
        self.assertEqual(union(Graph(1), path(2)), Graph(3, [(1, 2)]))

    def test_16_nodes_and_more(self):
        for one, two in itertools.product(range(1, 17), repeat=2):
            if one + two <= 16:
                self.assertEqual(union(Graph(one), Graph(two)), Graph(one + two))
            else:
                self.assertEqual(raised(InvalidSize, union, Graph(one), path(two)).value, one + two)

    def test_40_edges_and_more(self):
        nine = Graph(9, complete_edges(9))
        self.assertEqual(len(nine), 36)
        self.assertEqual(len(union(nine, path(5))), 40)
        self.assertEqual(len(union(cycle(4), nine)), 40)
        self.assertEqual(raised(TooMany, union, nine, path(6)).value, 41)
        self.assertEqual(raised(TooMany, union, cycle(5), nine).value, 41)
        self.assertEqual(len(union(Graph(7, TWENTY), Graph(7, TWENTY))), 2 * len(TWENTY))
        crowd = Graph(7, complete_edges(7))
        self.assertEqual(raised(TooMany, union, crowd, Graph(8, complete_edges(7)[:20])).value, 41)
        self.assertEqual(raised(TooMany, union, crowd, crowd).value, 42)
        self.assertEqual(raised(TooMany, union, nine, Graph(7, complete_edges(7))).value, 57)

    def test_too_many_nodes_and_edges(self):
        nine = Graph(9, complete_edges(9))
        self.assertEqual(raised(InvalidSize, union, nine, nine).value, 18)
        self.assertEqual(raised(InvalidSize, union, nine, Graph(8, complete_edges(8))).value, 17)
        self.assertEqual(raised(InvalidSize, union, GRID, GRID).value, 32)


class TestRenumbered(unittest.TestCase):
    def check_order(self, graph, position, order):
        other = renumbered(graph, order)
        self.assertIs(other.__class__, Graph)
        self.assertEqual(other.size(), graph.size())
        self.assertEqual(other.edges(), sorted((min(order[one], order[two]), max(order[one], order[two]))
                                               for one, two in graph.edges()))
        numbers = renumbered_position(graph, position, order)
        for node in range(graph.size()):
            self.assertEqual(numbers[order[node]], position[node])
            self.assertEqual(other.neighbours(order[node]), sorted(order[near] for near in graph.neighbours(node)))
        self.assertEqual(renumbered(other, inverse(order)), graph)
        self.assertEqual(renumbered_position(other, numbers, inverse(order)), position)

    def test_all_orders_of_small_graphs(self):
        for graph in (path(1), path(2), Graph(2), path(3), TRIANGLE, path(4), KITE, star(4),
                      Graph(5, [(4, 1), (0, 3)])):
            for order in itertools.permutations(range(graph.size())):
                self.check_order(graph, list(range(10, 10 + graph.size())), list(order))

    def test_great_graphs(self):
        for seed, graph in enumerate([GRID, path(16), cycle(16), Graph(16), star(16), Graph(9, complete_edges(9))]):
            for turn in range(5):
                order = some_order(graph.size(), 10 * seed + turn)
                self.check_order(graph, [(-1) ** node * (GREAT - node) for node in range(graph.size())], order)

    def test_node_k_has_the_number_order_k(self):
        self.assertEqual(renumbered(Graph(4, [(0, 1)]), [2, 3, 0, 1]), Graph(4, [(2, 3)]))
        self.assertEqual(renumbered(Graph(3, [(0, 1)]), [1, 2, 0]), Graph(3, [(1, 2)]))
        self.assertEqual(renumbered_position(Graph(3), [5, 6, 7], [1, 2, 0]), [7, 5, 6])

    def test_the_same_order(self):
        for graph in (path(1), KITE, GRID):
            position = [3 - node for node in range(graph.size())]
            order = list(range(graph.size()))
            self.assertEqual(renumbered(graph, order), graph)
            self.assertEqual(renumbered_position(graph, position, order), position)
            self.assertIsNot(renumbered_position(graph, position, order), position)

    def test_no_orders(self):
        for order in NO_ORDERS:
            self.assertIs(raised(InvalidOrder, renumbered, path(3), order).value, order)
            self.assertIs(raised(InvalidOrder, renumbered_position, path(3), [1, 2, 3], order).value, order)
        for order in ([1], [], [False], [True], [0, 0], (0,), None):
            self.assertIs(raised(InvalidOrder, renumbered, path(1), order).value, order)
            self.assertIs(raised(InvalidOrder, renumbered_position, path(1), [5], order).value, order)

    def test_order_of_the_exceptions(self):
        for position in no_positions(3):
            for order in ([0, 1, 2], [0, 0, 0], None):
                self.assertIs(raised(InvalidPosition, renumbered_position, path(3), position, order).value, position)

    def test_arguments_do_not_change_and_results_are_new(self):
        graph, position, order = path(3), [5, 6, 7], [2, 0, 1]
        renumbered_position(graph, position, order).append(1)
        other = renumbered(graph, order)
        order.append(9)
        self.assertEqual(other, Graph(3, [(0, 1), (0, 2)]))
        self.assertEqual([graph, position], [path(3), [5, 6, 7]])
        self.assertEqual(renumbered_position(graph, position, order[:3]), [6, 7, 5])
        wrong = [0, 0, 1]
        before = copy.deepcopy([position, wrong])
        raised(InvalidOrder, renumbered_position, graph, position, wrong)
        self.assertEqual([position, wrong], before)


class TestResultsAreRenumbered(unittest.TestCase):
    """What [4] (i) says of renumbered graphs."""

    def test_kinds_and_certificates(self):
        graphs = finite_graphs() + [graph for graph, weights in balanced_graphs()] + wild_graphs()
        for seed, graph in enumerate(graphs):
            order = some_order(graph.size(), seed)
            other = renumbered(graph, order)
            self.assertEqual(kind(other), kind(graph))
            first, second = classify(graph), classify(other)
            if first[0] == "finite":
                self.assertEqual(second[1], sorted(moved(form, order) for form in first[1]))
                self.assertEqual(second[1], closed_list(other))
            elif first[0] == "balanced":
                self.assertEqual(second[1], moved(first[1], order))
                self.assertEqual(second[2], sorted(moved(form, order) for form in first[2]))
            else:
                self.assertIs(is_certificate(other, ("wild", moved(first[1], order))), True)

    def test_firings_and_lengths_and_ends(self):
        chance = random.Random(71)
        for seed, (graph, weights_list) in enumerate(TAME):
            order = some_order(graph.size(), seed)
            other = renumbered(graph, order)
            forms = closed_list(graph)
            for position in list(positions_with(weights_list, graph, chance))[::2] + [[0] * graph.size()]:
                numbers = renumbered_position(graph, position, order)
                self.assertEqual(negatives(other, numbers), sorted(order[node] for node in negatives(graph, position)))
                self.assertEqual(steps(other, numbers), steps(graph, position))
                first, second = outcome(graph, position), outcome(other, numbers)
                self.assertEqual(first[0], second[0])
                if first[0] == "ends":
                    self.assertEqual(second, ("ends", first[1], moved(first[2], order)))
                    self.assertEqual(totals(other, numbers), moved(totals(graph, position), order))
                    self.assertEqual(settle(other, numbers)[2], moved(settle(graph, position)[2], order))
                    self.assertEqual(canonical(other, numbers), moved(canonical(graph, position), order))
                else:
                    self.assertIsNone(totals(other, numbers))
                if forms is not None:
                    self.assertEqual(negative_forms(other, numbers),
                                     sorted(moved(form, order) for form in negative_forms(graph, position)))

    def test_counts(self):
        chance = random.Random(72)
        for seed, (graph, weights_list) in enumerate(TAME[::2]):
            order = some_order(graph.size(), seed)
            other = renumbered(graph, order)
            for turn in range(3):
                end = [chance.choice((0, 0, 1, 4)) for node in range(graph.size())]
                numbers = renumbered_position(graph, end, order)
                for length in (0, 2, 7, 60):
                    self.assertEqual(start_count(other, numbers, length), start_count(graph, end, length))
                self.assertEqual(starts(other, numbers, 2),
                                 sorted(moved(start, order) for start in starts(graph, end, 2)))

    def test_small_positions(self):
        for position in itertools.product((-2, -1, 0, 1, 3), repeat=4):
            for graph, order in ((path(4), [2, 0, 3, 1]), (star(4), [1, 3, 0, 2])):
                other, numbers = renumbered(graph, order), moved(position, order)
                self.assertEqual(orders(other, numbers), orders(graph, list(position)))
                self.assertEqual(len(fewest_rounds(other, numbers)), len(fewest_rounds(graph, list(position))))

    def test_connections(self):
        order = [2, 0, 3, 1]
        graph = cycle(4)
        other = renumbered(graph, order)
        positions = [list(numbers) for numbers in itertools.product((-1, 0, 1), repeat=4)]
        for position, second in itertools.product(positions[::2], positions[::3]):
            self.assertEqual(linked(other, moved(position, order), moved(second, order)),
                             linked(graph, position, second))

    def test_outcomes_on_wild_graphs(self):
        chance = random.Random(73)
        found = {"ends": 0, "never": 0, "open": 0}
        for seed, graph in enumerate(wild_graphs()):
            order = some_order(graph.size(), seed)
            other = renumbered(graph, order)
            for position in positions_for(graph, chance):
                first = outcome(graph, position, limit=200)
                second = outcome(other, renumbered_position(graph, position, order), limit=200)
                found[first[0]] += 1
                if first[0] == "ends":
                    self.assertEqual(second, ("ends", first[1], moved(first[2], order)))
                else:
                    self.assertIn(second[0], ("never", "open"))
        self.assertGreater(min(found["ends"], found["never"]), 20)


class TestResultsOfUnions(unittest.TestCase):
    """What the package returns of a union is what it returns of its parts, joined or added."""

    def test_firings_lengths_and_ends(self):
        chance = random.Random(74)
        words = set()
        for graph, other in pieces():
            whole, size = union(graph, other), graph.size()
            for left, right in itertools.product(positions_for(graph, chance), positions_for(other, chance)):
                both = left + right
                self.assertEqual(negatives(whole, both),
                                 negatives(graph, left) + [node + size for node in negatives(other, right)])
                first, second = outcome(graph, left, limit=60), outcome(other, right, limit=60)
                result = outcome(whole, both, limit=60)
                words.add((first[0], second[0]))
                if first[0] == second[0] == "ends":
                    self.assertEqual(result, ("ends", first[1] + second[1], first[2] + second[2]))
                elif "never" in (first[0], second[0]):
                    self.assertEqual(result[0], "never")
                else:
                    self.assertEqual(result, ("open", 60))
        self.assertGreaterEqual(len(words), 6)

    def test_lengths_and_sums_without_playing(self):
        chance = random.Random(75)
        for graph, other in pieces():
            if graph == KITE or other == KITE:
                continue
            whole = union(graph, other)
            for left, right in zip(positions_for(graph, chance), positions_for(other, chance)):
                both = left + right
                counts, sums = [steps(graph, left), steps(other, right)], [totals(graph, left), totals(other, right)]
                self.assertEqual(steps(whole, both), None if None in counts else sum(counts))
                self.assertEqual(totals(whole, both), None if None in sums else sums[0] + sums[1])
                self.assertEqual(canonical(whole, both), canonical(graph, left) + canonical(other, right))

    def test_closed_lists(self):
        for graph, other in pieces():
            forms, more = closed_list(graph), closed_list(other)
            whole = closed_list(union(graph, other))
            if forms is None or more is None:
                self.assertIsNone(whole)
            else:
                self.assertEqual(whole, sorted([form + [0] * other.size() for form in forms]
                                               + [[0] * graph.size() + form for form in more]))

    def test_kinds(self):
        for graph, other in pieces():
            whole = union(graph, other)
            caught = raised(NotConnected, kind, whole)
            self.assertEqual(caught.value, whole.components())

    def test_counts(self):
        for graph, end, other, more in [(path(3), [1, 0, 2], TRIANGLE, [0, 1, 0]), (path(2), [0, 0], star(5), [1] * 5),
                                        (TRIANGLE, [5, 0, 1], cycle(4), [0, 0, 0, 2]),
                                        (Graph(2), [1, 0], path(4), [1] * 4)]:
            whole = union(graph, other)
            left = [start_count(graph, end, length) for length in range(61)]
            right = [start_count(other, more, length) for length in range(61)]
            for length in (0, 1, 2, 3, 10, 60):
                expected = sum(left[turn] * right[length - turn] for turn in range(length + 1))
                self.assertEqual(start_count(whole, end + more, length), expected)

    def test_plays(self):
        chance = random.Random(76)
        for graph, other in pieces():
            left = [chance.randint(0, 9) for node in range(graph.size())]
            right = [chance.randint(0, 9) for node in range(other.size())]
            left[0] = right[-1] = -1
            first, second = run(graph, left, 100), run(other, right, 100)
            if has_ended(graph, first[0]):
                shifted = [node + graph.size() for node in second[1]]
                limit = len(first[1]) + len(shifted)
                self.assertEqual(run(union(graph, other), left + right, limit),
                                 (first[0] + second[0], first[1] + shifted))

    def test_a_value_on_each_part(self):
        whole = union(TRIANGLE, star(5))
        both = [1, 2, -2] + [-1, 1, 1, 0, 1]
        self.assertEqual([value_of([1, 1, 1], both[:3]), value_of([2, 1, 1, 1, 1], both[3:])], [1, 1])
        self.assertEqual(outcome(whole, both)[0], "ends")
        self.assertEqual(outcome(whole, both[:3] + [-1, 1, 1, 0, 0])[0], "never")


if __name__ == "__main__":
    unittest.main()
