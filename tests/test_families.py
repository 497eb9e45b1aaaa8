"""Kinds of graphs and their certificates: promises [14], [15], and what [2], [3], [4] say of them."""

import copy
import inspect
import itertools
import random
import unittest

from firenegatives import families
from firenegatives.errors import NotConnected
from firenegatives.families import classify, is_certificate, kind
from firenegatives.firing import fire, has_ended, negatives, run
from firenegatives.forms import closed_list
from firenegatives.graphs import Graph
from tests.judges import are_representatives, are_smallest_balanced, are_weights, is_closed, value_of
from tests.samples import (
    GREAT, GRID, KITE, NOT_INTEGERS, balanced_graphs, complete_edges, cycle, finite_graphs, forked, legs, moved_graph,
    moved_list, no_tuples, path, raised, side_by_side, some_order, star, wild_graphs, with_edges, with_pendant,
)

TRIANGLE = cycle(3)
APART = [Graph(2), side_by_side(path(2), path(3)), side_by_side(cycle(3), KITE, path(1)), Graph(16), Graph(3, [(0, 2)]),
         side_by_side(forked(5), forked(6))]


def is_tree(graph):
    return len(graph) == graph.size() - 1


def legs_of(graph):
    """Return the sorted lengths of the paths around the only node of degree 3 of a tree, or None without that shape."""
    degrees = [len(graph.neighbours(node)) for node in range(graph.size())]
    if sorted(degree for degree in degrees if degree > 2) != [3]:
        return None
    centre, lengths = degrees.index(3), []
    for node in graph.neighbours(centre):
        before, length = centre, 1
        while len(graph.neighbours(node)) == 2:
            before, node = node, [other for other in graph.neighbours(node) if other != before][0]
            length += 1
        lengths.append(length)
    return tuple(sorted(lengths))


def kind_by_shape(graph):
    """Return the kind of a connected graph as the lists of [14] tell it."""
    degrees = sorted(len(graph.neighbours(node)) for node in range(graph.size()))
    if not is_tree(graph):
        return "balanced" if degrees[0] == degrees[-1] == 2 else "wild"
    if degrees[-1] <= 2:
        return "finite"
    shape = legs_of(graph)
    if shape is not None:
        if shape[:2] == (1, 1) or shape in ((1, 2, 2), (1, 2, 3), (1, 2, 4)):
            return "finite"
        return "balanced" if shape in ((2, 2, 2), (1, 3, 3), (1, 2, 5)) else "wild"
    if degrees == [1, 1, 1, 1, 4]:
        return "balanced"
    ends = [node for node in range(graph.size()) if len(graph.neighbours(node)) == 1]
    forks = [node for node in range(graph.size()) if len(graph.neighbours(node)) == 3]
    if degrees[-1] == 3 and len(forks) == 2 and all(graph.neighbours(end)[0] in forks for end in ends):
        return "balanced"
    return "wild"


def neighbours_of_shapes():
    """Return the connected graphs that are one more node or one more edge away from a finite or a balanced one."""
    found = []
    for graph in finite_graphs() + [each for each, weights in balanced_graphs()]:
        if graph.size() < 16:
            found += [with_pendant(graph, node) for node in range(graph.size())]
        free = [edge for edge in complete_edges(graph.size()) if edge not in graph.edges()]
        found += [with_edges(graph, edge) for edge in free[::max(1, len(free) // 8)]]
    return found


def connected_graphs(size):
    """Return all connected graphs of so many nodes, in all numberings."""
    edges = complete_edges(size)
    for chosen in itertools.product((False, True), repeat=len(edges)):
        graph = Graph(size, [edge for edge, taken in zip(edges, chosen) if taken])
        if len(graph.components()) == 1:
            yield graph


class TestExamples(unittest.TestCase):
    def test_example(self):
        self.assertEqual(
            [kind(TRIANGLE), classify(TRIANGLE),
             is_certificate(Graph(4, [(0, 1), (0, 2), (1, 2), (2, 3)]), ("wild", [1, 1, 1, 0]))],
            ["balanced",
             ("balanced", [1, 1, 1], [[0, 0, 1], [0, 1, 0], [0, 1, 1], [1, 0, 0], [1, 0, 1], [1, 1, 0]]), True])


class TestInterface(unittest.TestCase):
    SIGNATURES = {"kind": "(graph)", "classify": "(graph)", "is_certificate": "(graph, thing)"}

    def test_argument_names(self):
        for name, signature in self.SIGNATURES.items():
            function = getattr(families, name)
            self.assertEqual(str(inspect.signature(function)), signature, name)
            self.assertEqual(function.__module__, "firenegatives.families", name)

    def test_keywords(self):
        self.assertEqual(kind(graph=path(1)), "finite")
        self.assertEqual(classify(graph=path(1)), ("finite", [[1]]))
        self.assertIs(is_certificate(thing=("finite", [[1]]), graph=path(1)), True)


class TestKind(unittest.TestCase):
    def test_families(self):
        for number, graph in enumerate(finite_graphs()):
            self.assertEqual(kind(graph), "finite", graph)
            self.assertEqual(kind(moved_graph(graph, some_order(graph.size(), number))), "finite", graph)
        for number, (graph, weights) in enumerate(balanced_graphs()):
            self.assertEqual(kind(graph), "balanced", graph)
            self.assertEqual(kind(moved_graph(graph, some_order(graph.size(), number))), "balanced", graph)

    def test_wild_graphs(self):
        for number, graph in enumerate(wild_graphs()):
            self.assertEqual(kind(graph), "wild", graph)
            self.assertEqual(kind(moved_graph(graph, some_order(graph.size(), number))), "wild", graph)

    def test_just_beside_the_families(self):
        found = {"finite": 0, "balanced": 0, "wild": 0}
        for number, graph in enumerate(neighbours_of_shapes()):
            graph = moved_graph(graph, some_order(graph.size(), number))
            self.assertEqual(kind(graph), kind_by_shape(graph), graph)
            found[kind(graph)] += 1
        self.assertGreater(min(found.values()), 20)

    def test_all_legs(self):
        for one in range(1, 14):
            for two in range(one, 14):
                for three in range(two, 16 - one - two):
                    graph = legs(three, one, two)
                    self.assertEqual(kind(graph), kind_by_shape(graph), graph)

    def test_all_small_graphs(self):
        for size in range(1, 6):
            for graph in connected_graphs(size):
                self.assertEqual(kind(graph), kind_by_shape(graph), graph)

    def test_random_trees(self):
        chance = random.Random(4)
        for size in list(range(1, 17)) * 40:
            edges = [(chance.randrange(max(0, node - 3), node), node) for node in range(1, size)]
            graph = moved_graph(Graph(size, edges), some_order(size, size))
            self.assertEqual(kind(graph), kind_by_shape(graph), graph)

    def test_not_connected(self):
        for graph in APART:
            for function, more in ((kind, ()), (classify, ()), (is_certificate, (None,)),
                                   (is_certificate, (("finite", []),))):
                components = raised(NotConnected, function, graph, *more).value
                self.assertEqual(components, graph.components())
                components[0].append(99)
                components.pop()
                self.assertEqual(raised(NotConnected, function, graph, *more).value, graph.components())


class TestClassify(unittest.TestCase):
    def check_certificate(self, graph):
        certificate = classify(graph)
        self.assertIs(certificate.__class__, tuple)
        self.assertEqual(certificate[0], kind_by_shape(graph))
        if certificate[0] == "finite":
            name, forms = certificate
            self.assertTrue(is_closed(graph, forms), graph)
            self.assertEqual(forms, sorted(forms))
        elif certificate[0] == "balanced":
            name, weights, forms = certificate
            self.assertTrue(are_smallest_balanced(graph, weights), graph)
            self.assertTrue(are_representatives(graph, weights, forms), graph)
            self.assertEqual(forms, sorted(forms))
        else:
            name, weights = certificate
            self.assertTrue(are_weights(graph, weights), graph)
        self.assertIs(is_certificate(graph, certificate), True)
        self.assertEqual(classify(graph), certificate)

    def test_every_finite_and_balanced_graph(self):
        for number, graph in enumerate(finite_graphs() + [each for each, weights in balanced_graphs()]):
            self.check_certificate(graph)
            self.check_certificate(moved_graph(graph, some_order(graph.size(), number)))

    def test_wild_graphs(self):
        for number, graph in enumerate(wild_graphs()):
            self.check_certificate(graph)
            self.check_certificate(moved_graph(graph, some_order(graph.size(), number)))

    def test_small_graphs_and_those_beside_the_families(self):
        for size in range(1, 5):
            for graph in connected_graphs(size):
                self.check_certificate(graph)
        for graph in neighbours_of_shapes()[::7]:
            self.check_certificate(graph)

    def test_weights_and_numbers_of_representatives(self):
        for graph, weights in balanced_graphs():
            name, found, forms = classify(graph)
            self.assertEqual(found, weights)
            # Without a node of weight 1 a finite graph is left, with half as many forms.
            node = weights.index(1)
            rest = [other for other in range(graph.size()) if other != node]
            smaller = Graph(len(rest), [(rest.index(one), rest.index(two)) for one, two in graph.edges()
                                        if node not in (one, two)])
            self.assertEqual(len(forms), 2 * len(classify(smaller)[1]))
        self.assertEqual(len(classify(legs(1, 2, 5))[2]), 240)
        self.assertEqual(len(classify(forked(16))[2]), 420)

    def test_renumbered(self):
        for number, graph in enumerate(finite_graphs() + [each for each, weights in balanced_graphs()]):
            order = some_order(graph.size(), number)
            moved, plain = classify(moved_graph(graph, order)), classify(graph)
            self.assertEqual(moved[-1], sorted(moved_list(form, order) for form in plain[-1]))
            if plain[0] == "balanced":
                self.assertEqual(moved[1], moved_list(plain[1], order))

    def test_results_are_new(self):
        for graph in (path(3), TRIANGLE, KITE):
            certificate = copy.deepcopy(classify(graph))
            found = classify(graph)
            found[1].clear()
            if len(found) == 3:
                found[2][0][0] = 7
            self.assertEqual(classify(graph), certificate)


class TestGuarantees(unittest.TestCase):
    def test_each_negative_form_of_the_extended_list_is_one_firing(self):
        chance = random.Random(11)
        for number, (graph, weights) in enumerate(balanced_graphs()):
            graph, weights = [(graph, weights), (moved_graph(graph, some_order(graph.size(), number)),
                                                 moved_list(weights, some_order(graph.size(), number)))][number % 2]
            forms = classify(graph)[2]
            for total in (1, 2, 7, 30):
                position = [chance.randint(-6, 6) for node in range(graph.size())]
                position[weights.index(1)] += total - value_of(weights, position)
                negative = 0
                for form in forms:
                    while value_of(form, position) < 0:
                        negative += 1
                        form = [entry + weight for entry, weight in zip(form, weights)]
                end, nodes = run(graph, position, 10000)
                self.assertTrue(has_ended(graph, end))
                self.assertEqual(len(nodes), negative)

    def test_a_closed_list_or_weights_and_never_both(self):
        for size in range(1, 5):
            for graph in connected_graphs(size):
                some = any(are_weights(graph, list(entries)) for entries in itertools.product(range(3), repeat=size))
                self.assertEqual(closed_list(graph) is None, some)
                self.assertEqual(kind(graph) == "finite", not some)

    def test_with_a_closed_list_every_play_ends(self):
        for graph in finite_graphs():
            end, nodes = run(graph, [-node - 1 for node in range(graph.size())], 10000)
            self.assertTrue(has_ended(graph, end))

    def test_with_weights_no_play_from_a_negative_value_ends(self):
        chance = random.Random(12)
        for graph in wild_graphs() + [each for each, weights in balanced_graphs()]:
            weights = classify(graph)[1]
            for bound in (3, GREAT):
                position = [chance.randint(-bound, bound) for node in range(graph.size())]
                node = [place for place, weight in enumerate(weights) if weight == 1][0]
                position[node] -= value_of(weights, position) + 1
                before = -1
                for turn in range(200):
                    self.assertTrue(negatives(graph, position))
                    position = fire(graph, position, chance.choice(negatives(graph, position)))
                    self.assertLessEqual(value_of(weights, position), before)
                    before = value_of(weights, position)


class TestIsCertificate(unittest.TestCase):
    def test_lists_in_any_order(self):
        chance = random.Random(5)
        for graph in finite_graphs() + [each for each, weights in balanced_graphs()]:
            certificate = classify(graph)
            forms = certificate[-1]
            chance.shuffle(forms)
            self.assertIs(is_certificate(graph, certificate[:-1] + (forms,)), True)
            self.assertIs(is_certificate(graph, certificate[:-1] + (forms[::-1],)), True)

    def test_a_form_less_twice_or_more(self):
        for graph in (path(3), legs(1, 1, 1), TRIANGLE, cycle(5), star(5), forked(6), legs(2, 2, 2)):
            certificate = classify(graph)
            before, forms, weights = certificate[:-1], certificate[-1], [1] * graph.size()
            if certificate[0] == "balanced":
                weights = certificate[1]
            for place, form in enumerate(forms):
                self.assertIs(is_certificate(graph, before + (forms[:place] + forms[place + 1:],)), False)
                self.assertIs(is_certificate(graph, before + (forms + [list(form)],)), False)
                higher = [entry + weight for entry, weight in zip(form, weights)]
                self.assertIs(is_certificate(graph, before + (forms + [higher],)), False)
                self.assertIs(is_certificate(graph, before + (forms[:place] + [higher] + forms[place + 1:],)), False)
            for more in ([0] * graph.size(), weights, [-entry for entry in forms[0]], [GREAT] * graph.size(),
                         [2] + [0] * (graph.size() - 1)):
                self.assertIs(is_certificate(graph, before + (forms + [more],)), False)

    def test_an_entry_changed(self):
        for graph in (path(3), TRIANGLE, star(5), KITE):
            certificate = classify(graph)
            lists = [(1, None, node) for node in range(graph.size())] if certificate[0] != "finite" else []
            if certificate[0] != "wild":
                lists += [(len(certificate) - 1, place, node)
                          for place in range(len(certificate[-1])) for node in range(graph.size())]
            for at, place, node in lists:
                for entry in (1, -1, GREAT, -GREAT, None, True, False, "1", 1.0):
                    changed = copy.deepcopy(certificate)
                    row = changed[at] if place is None else changed[at][place]
                    if isinstance(entry, int) and not isinstance(entry, bool):
                        row[node] += entry
                    else:
                        row[node] = entry
                    expected = certificate[0] == "wild" and are_weights(graph, row)
                    self.assertIs(is_certificate(graph, changed), expected, changed)

    def test_representatives_that_are_not_closed(self):
        weights = [1, 1, 1]
        units = [[1, 0, 0], [0, 1, 0], [0, 0, 1]]
        pairs = [[1, 1, 0], [1, 0, 1], [0, 1, 1]]
        self.assertIs(is_certificate(TRIANGLE, ("balanced", weights, units + pairs)), True)
        for forms in ([], units, pairs, units + pairs[:2], pairs + units[1:], units + pairs + [[2, 0, 0]],
                      units + pairs + [[2, 1, 0]], units + pairs + [[2, 0, 1], [0, 2, 1]], units + pairs + [weights]):
            self.assertIs(is_certificate(TRIANGLE, ("balanced", weights, forms)), False)

    def test_a_bigger_family_of_forms_is_none(self):
        # All forms that turn up from a form beside the list, added to the right ones: closed but for the sign.
        forms = classify(TRIANGLE)[2]
        more = forms + [[2, 0, 1], [1, 2, 0], [0, 1, 2]]
        self.assertIs(is_certificate(TRIANGLE, ("balanced", [1, 1, 1], more)), False)

    def test_weights_doubled(self):
        for graph, weights in balanced_graphs():
            forms = classify(graph)[2]
            double = [2 * entry for entry in weights]
            higher = [[entry + weight for entry, weight in zip(form, weights)] for form in forms]
            self.assertIs(is_certificate(graph, ("balanced", double, forms)), False)
            self.assertIs(is_certificate(graph, ("balanced", double, sorted(forms + higher))), False)
            self.assertIs(is_certificate(graph, ("balanced", double, sorted(forms + higher + [weights]))), False)
            for other in ([-entry for entry in weights], [0] * graph.size(), [GREAT * entry for entry in weights],
                          [weights[0] + 1] + weights[1:], weights[1:], weights + [1], tuple(weights), None):
                self.assertIs(is_certificate(graph, ("balanced", other, forms)), False)

    def test_another_word(self):
        for graph in (path(3), TRIANGLE, KITE, star(5), path(1)):
            certificate = classify(graph)
            for word in ("finite", "balanced", "wild", "Finite", "", "finit", None, b"finite", 0, True, ["finite"]):
                self.assertIs(is_certificate(graph, (word,) + certificate[1:]), word == certificate[0], (graph, word))

    def test_a_word_that_equals_everything(self):
        class Same:
            def __eq__(self, other):
                return True

        for graph in (path(3), TRIANGLE, KITE):
            self.assertIs(is_certificate(graph, (Same(),) + classify(graph)[1:]), False)

    def test_other_graphs_have_no_balanced_certificates(self):
        for graph, weights in [(KITE, [1, 1, 1, 0]), (KITE, [3, 3, 4, 2]), (path(3), [1, 1, 1]), (path(3), [1, 2, 1]),
                               (star(6), [2, 1, 1, 1, 1, 0]), (star(6), [5, 2, 2, 2, 2, 2]), (GRID, [1] * 16)]:
            units = [[int(other == node) for other in range(graph.size())] for node in range(graph.size())]
            missing = [[weight - entry for weight, entry in zip(weights, unit)] for unit in units]
            for forms in ([], units, units[:1], units + missing, closed_list(graph)):
                self.assertIs(is_certificate(graph, ("balanced", weights, forms)), False)

    def test_finite_and_balanced_graphs_have_no_wild_certificates(self):
        for graph, weights in balanced_graphs():
            for times in (1, 2, GREAT):
                self.assertIs(is_certificate(graph, ("wild", [times * entry for entry in weights])), False)
        for graph in finite_graphs() + [each for each, weights in balanced_graphs()]:
            for weights in ([1] * graph.size(), [2] * graph.size(), [0] * graph.size(), [1] + [0] * (graph.size() - 1)):
                self.assertIs(is_certificate(graph, ("wild", weights)), False)

    def test_any_weights_of_a_wild_graph(self):
        for graph, weights in [(KITE, [1, 1, 1, 0]), (KITE, [3, 3, 4, 2]), (KITE, [5, 5, 5, 0]), (KITE, [5, 5, 5, 2]),
                               (GRID, [1] * 16), (GRID, [GREAT] * 16), (star(6), [2, 1, 1, 1, 1, 1]),
                               (star(6), [2, 1, 1, 1, 1, 0]), (star(6), [2, 0, 1, 1, 1, 1]),
                               (star(6), [5, 2, 2, 2, 2, 2]),
                               (legs(2, 2, 3), [3, 2, 1, 2, 1, 2, 1, 0]), (legs(1, 3, 4), [4, 2, 3, 2, 1, 3, 2, 1, 0])]:
            self.assertTrue(are_weights(graph, weights))
            self.assertIs(is_certificate(graph, ("wild", weights)), True, (graph, weights))
        for graph, weights in [(KITE, [1, 1, 1, 1]), (KITE, [0, 0, 0, 0]), (KITE, [1, 1, 0, 0]),
                               (KITE, [-1, -1, -1, 0]), (KITE, [GREAT, GREAT, GREAT, GREAT]), (KITE, [1, 1, 1, -1]),
                               (KITE, [1, 1, 1, 0, 0]), (star(6), [2, 1, 1, 1, 0, 0]), (star(6), [2, 2, 2, 2, 2, 2]),
                               (star(6), [3, 1, 1, 1, 1, 1])]:
            self.assertIs(is_certificate(graph, ("wild", weights)), False, (graph, weights))

    def test_random_weights(self):
        chance = random.Random(6)
        accepted = 0
        for graph in [KITE, star(6), with_edges(cycle(4), (0, 2)), TRIANGLE, star(5), path(3)]:
            for trial in range(1000):
                low = chance.choice([-1, 0, 3])
                weights = [chance.randint(low, low + 3) for node in range(graph.size())]
                expected = kind(graph) == "wild" and are_weights(graph, weights)
                self.assertIs(is_certificate(graph, ("wild", weights)), expected, (graph, weights))
                accepted += expected
        self.assertGreater(accepted, 100)

    def test_other_kinds(self):
        for graph in (path(2), TRIANGLE, KITE):
            certificate = classify(graph)
            things = [list(certificate), certificate[:-1], certificate + (None,), certificate + certificate[-1:],
                      (certificate,), certificate[:-1] + (tuple(certificate[-1]),), certificate[::-1],
                      certificate[:-1] + ([certificate[-1]],), certificate[:1], certificate[1:], certificate[-1]]
            things += [certificate[:1] + (thing,) + certificate[2:] for thing in NOT_INTEGERS + [3]]
            lists = [[None], [[]], [[True] * graph.size()]]
            things += [certificate[:-1] + (thing,) for thing in NOT_INTEGERS + [3] + lists]
            things += [certificate[:1] + ([thing] * graph.size(),) + certificate[2:] for thing in NOT_INTEGERS]
            if certificate[0] != "wild":
                things.append(certificate[:-1] + ([tuple(form) for form in certificate[-1]],))
            for thing in things + no_tuples() + NOT_INTEGERS:
                self.assertIs(is_certificate(graph, thing), False, thing)

    def test_argument_does_not_change(self):
        for graph in (path(3), TRIANGLE, KITE):
            certificate = classify(graph)
            before = copy.deepcopy(certificate)
            is_certificate(graph, certificate)
            self.assertEqual(certificate, before)


if __name__ == "__main__":
    unittest.main()
