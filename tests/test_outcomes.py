"""What becomes of a position: promises [19], [20], and what [3], [4] say of them."""

import copy
import inspect
import random
import unittest

from firenegatives import outcomes
from firenegatives.errors import InvalidLimit, InvalidPosition
from firenegatives.families import classify, kind
from firenegatives.firing import has_ended, is_play, play, run
from firenegatives.jumps import settle
from firenegatives.lengths import steps
from firenegatives.outcomes import is_never, outcome
from tests.components import MIXED, TAME, ends, positions_with
from tests.judges import are_weights, value_of
from tests.samples import (
    GREAT, GRID, KITE, NOT_INTEGERS, balanced_graphs, cycle, finite_graphs, moved_graph, moved_list, no_node_lists,
    no_positions, no_tuples, part_of, path, raised, side_by_side, some_order, star, wild_graphs,
)

TRIANGLE = cycle(3)
# On the kite these take 999, 1001 and 1999 firings, and the last one never ends, which 1000 firings do not show.
KITE_999, KITE_1001, KITE_1999 = [500, 1, -500, 10 ** 9], [501, 1, -501, 10 ** 9], [1000, 1, -1000, 10 ** 9]
KITE_LATE = [1000, 1, -1000, 0]


def outcome_word(graph, position, limit):
    """Return the first entry of the outcome as [20] says, from the components alone."""
    words = []
    for component in graph.components():
        part, numbers = part_of(graph, component), [position[node] for node in component]
        if kind(part) == "wild":
            reached, nodes = run(part, numbers, limit)
            if not has_ended(part, reached):
                words.append("never" if value_of(classify(part)[1], reached) < 0 else "open")
        elif settle(part, numbers) is None:
            return "never"
    return min(words, default="ends")


def wild_positions(graph, chance):
    """Return positions of many kinds: small, great, mostly positive, with one negative number."""
    size = graph.size()
    yield [chance.randint(-3, 3) for node in range(size)]
    yield [chance.randint(-3, 30) for node in range(size)]
    yield [chance.randint(-GREAT, 9 * GREAT) for node in range(size)]
    yield [-1 if node == size // 2 else chance.randint(0, 9) for node in range(size)]
    yield [1] * (size - 1) + [-2]
    yield [GREAT] * size


class TestExamples(unittest.TestCase):
    def test_example(self):
        self.assertEqual(
            [outcome(KITE, [1, -1, 5, 0]), outcome(KITE, [-1, 0, 0, 0])[0],
             is_never(KITE, [-1, 0, 0, 0], ([], [1, 1, 1, 0]))],
            [("ends", 1, [0, 1, 4, 0]), "never", True])


class TestInterface(unittest.TestCase):
    SIGNATURES = {"is_never": "(graph, position, thing)", "outcome": "(graph, position, *, limit=1000)"}

    def test_argument_names(self):
        for name, signature in self.SIGNATURES.items():
            function = getattr(outcomes, name)
            self.assertEqual(str(inspect.signature(function)), signature, name)
            self.assertEqual(function.__module__, "firenegatives.outcomes", name)

    def test_keywords(self):
        self.assertEqual(outcome(limit=3, position=[-4], graph=path(1)), ("ends", 1, [4]))
        self.assertIs(is_never(thing=([], [1, 1, 1]), position=[-1, 0, 0], graph=TRIANGLE), True)
        with self.assertRaises(TypeError):
            outcome(KITE, [1, 2, 3, 4], 5)


class TestIsNever(unittest.TestCase):
    def test_a_negative_value(self):
        for graph, position, nodes, weights in [
            (TRIANGLE, [-1, 0, 0], [], [1, 1, 1]), (TRIANGLE, [-1, 0, 0], [0], [1, 1, 1]),
            (TRIANGLE, [-1, 0, 0], [0, 1, 2], [3, 3, 3]), (TRIANGLE, [GREAT, GREAT, -1 - 2 * GREAT], [2], [1, 1, 1]),
            (KITE, [1, 1, -3, 9], [], [1, 1, 1, 0]), (KITE, [1, 1, -3, 9], [2], [GREAT, GREAT, GREAT, 0]),
            (KITE, [0, 0, 0, -1], [], [3, 3, 4, 2]), (KITE, [0, 0, 0, -1], [3], [1, 1, 1, 0]),
            (MIXED, [5] * 2 + [-1, 0, 0] + [9] * 9, [], [0, 0, 1, 1, 1] + [0] * 9),
            (MIXED, [5] * 5 + [-1, 0, 0, 0] + [9] * 5, [5], [0] * 5 + [1, 1, 1, 0] + [0] * 5),
            (MIXED, [0] * 5 + [-1, 0, 0, 0] + [0, 1, 0, 0, 0], [], [0, 0, 1, 1, 1] + [1, 1, 1, 0] + [0] * 5),
        ]:
            self.assertIs(is_never(graph, position, (nodes, weights)), True, (graph, position))

    def test_a_play_may_be_needed(self):
        # Only after firing the pendant node of the kite its triangle is negative.
        self.assertIs(is_never(KITE, [0, 0, 0, -1], ([], [1, 1, 1, 0])), False)
        self.assertIs(is_never(KITE, [0, 0, 0, -1], ([3], [1, 1, 1, 0])), True)
        self.assertIs(is_never(KITE, [0, 0, 1, -1], ([3], [1, 1, 1, 0])), False)

    def test_value_0_with_balanced_weights(self):
        for position, expected in [([1, 0, -1], True), ([GREAT, -GREAT, 0], True), ([0, 0, 0], False),
                                   ([1, 0, 0], False)]:
            for times in (1, 2, GREAT):
                self.assertIs(is_never(TRIANGLE, position, ([], [times] * 3)), expected)
        self.assertIs(is_never(TRIANGLE, [1, 0, -1], ([2, 1], [1, 1, 1])), True)
        several = side_by_side(path(2), TRIANGLE, star(5))
        for position, weights, expected in [
            ([0, 0, 1, 0, -1, 0, 0, 0, 0, 0], [0, 0, 1, 1, 1, 0, 0, 0, 0, 0], True),
            ([-1, 2, 0, 0, 0, 0, 1, -1, 0, 0], [0, 0, 1, 1, 1, 0, 0, 0, 0, 0], False),
            ([-1, 2, 0, 0, 0, 0, 1, -1, 0, 0], [0, 0, 0, 0, 0, 2, 1, 1, 1, 1], True),
            ([-1, 2, 0, 0, 0, 0, 1, -1, 0, 0], [0, 0, 1, 1, 1, 2, 1, 1, 1, 1], False),
            ([0, 0, 1, 0, -1, 0, 1, -1, 0, 0], [0, 0, 1, 1, 1, 2, 1, 1, 1, 1], False),
            ([5, 5, 5, 5, 5, 1, -2, 0, 0, 0], [0, 0, 0, 0, 0, 2, 1, 1, 1, 1], True),
        ]:
            self.assertTrue(are_weights(several, weights))
            self.assertIs(is_never(several, position, ([], weights)), expected, (position, weights))

    def test_value_0_with_other_weights(self):
        for position, weights in [([1, -1, 0, 0], [1, 1, 1, 0]), ([1, -1, 0, 5], [1, 1, 1, 0]),
                                  ([0, 0, 1, -2], [3, 3, 4, 2]), ([0, 0, 0, 5], [1, 1, 1, 0])]:
            self.assertTrue(are_weights(KITE, weights))
            self.assertIs(is_never(KITE, position, ([], weights)), False)

    def test_positive_values(self):
        self.assertIs(is_never(TRIANGLE, [2, 0, -1], ([], [1, 1, 1])), False)
        self.assertIs(is_never(TRIANGLE, [2, 0, -1], ([2], [1, 1, 1])), False)
        self.assertIs(is_never(KITE, [1, -1, 5, -1], ([], [1, 1, 1, 0])), False)

    def test_weights_that_are_none(self):
        position = [-1, -1, -1, -1]
        self.assertIs(is_never(KITE, position, ([], [1, 1, 1, 0])), True)
        for weights in ([1, 1, 1, 1], [0, 0, 0, 0], [1, 1, 0, 0], [-1, -1, -1, 0], [1, 1, 1], [1, 1, 1, 0, 0],
                        (1, 1, 1, 0), [1, 1, True, 0], [1, 1, 1, False], [True] * 3 + [0], None, [], [1, 1, None, 0],
                        [1, 1, 1.0, 0], "1110", {0: 1, 1: 1, 2: 1, 3: 0}, [1, 1, 1, -GREAT], [[1], 1, 1, 0],
                        GREAT, [GREAT] * 4):
            self.assertIs(is_never(KITE, position, ([], weights)), False, weights)
        for graph in finite_graphs():
            for weights in ([1] * graph.size(), [0] * graph.size(), [2] * graph.size()):
                self.assertIs(is_never(graph, [-1] * graph.size(), ([], weights)), False)

    def test_a_list_that_is_no_play(self):
        for nodes in ([1], [0, 0], [2, 0, 0], [0, 3]) + tuple(no_node_lists(3)):
            self.assertIs(is_never(TRIANGLE, [-1, 0, 0], (nodes, [1, 1, 1])), False, nodes)

    def test_other_kinds(self):
        things = [[[], [1, 1, 1]], ([], [1, 1, 1], []), ([],), ([1, 1, 1], []), ([], [1, 1, 1], None), ((), [1, 1, 1]),
                  ([], ([], [1, 1, 1])), ("never", [], [1, 1, 1]), ([[]], [1, 1, 1]), [1, 1, 1]]
        for thing in things + no_tuples() + NOT_INTEGERS:
            self.assertIs(is_never(TRIANGLE, [-1, 0, 0], thing), False, thing)

    def test_the_position_is_checked_first(self):
        for position in no_positions(3):
            for thing in (([], [1, 1, 1]), None, ([7], 5)):
                self.assertIs(raised(InvalidPosition, is_never, TRIANGLE, position, thing).value, position)

    def test_arguments_do_not_change(self):
        position, thing = [-1, 0, 0], ([0, 1], [1, 1, 1])
        is_never(TRIANGLE, position, thing)
        self.assertEqual([position, thing], [[-1, 0, 0], ([0, 1], [1, 1, 1])])


class TestOutcome(unittest.TestCase):
    def check_outcome(self, graph, position, **named):
        limit = named.get("limit", 1000)
        result = outcome(graph, position, **named)
        self.assertIs(result.__class__, tuple)
        self.assertEqual(result[0], outcome_word(graph, position, limit))
        if result[0] == "ends":
            word, length, reached = result
            self.assertTrue(has_ended(graph, reached))
            if length <= 10000:
                end, nodes = run(graph, position, 10000)
                self.assertEqual([length, reached], [len(nodes), end])
        elif result[0] == "never":
            word, nodes, weights = result
            self.assertTrue(is_play(graph, position, nodes))
            self.assertTrue(are_weights(graph, weights))
            self.assertIs(is_never(graph, position, (nodes, weights)), True)
        else:
            self.assertEqual(result, ("open", limit))
        return result

    def test_finite_and_balanced_components(self):
        chance = random.Random(26)
        for number, (graph, weights_list) in enumerate(TAME):
            for position in positions_with(weights_list, graph, chance):
                result = self.check_outcome(graph, position)
                self.assertEqual(result, ("ends", steps(graph, position), settle(graph, position)[2]))
                self.assertEqual(outcome(graph, position, limit=0), result)
                order = some_order(graph.size(), number)
                moved = outcome(moved_graph(graph, order), moved_list(position, order))
                self.assertEqual(moved, ("ends", result[1], moved_list(result[2], order)))

    def test_balanced_components_that_never_end(self):
        for graph, weights_list in TAME:
            for weights in weights_list:
                node = weights.index(1)
                other = graph.neighbours(node)[0]
                for total, number in [(-1, 0), (0, -1), (0, GREAT), (-1, GREAT), (-GREAT, 1)]:
                    position = [-1] * graph.size()
                    for every in weights_list:
                        position = [0 if weight else entry for weight, entry in zip(every, position)]
                    position[node], position[other] = total - weights[other] * number, number
                    self.assertFalse(ends(weights_list, position))
                    for limit in (0, 1000):
                        result = self.check_outcome(graph, position, limit=limit)
                        self.assertEqual(result, ("never", [], weights))

    def test_wild_graphs(self):
        chance = random.Random(27)
        found = {"ends": 0, "never": 0, "open": 0}
        for number, graph in enumerate(wild_graphs()):
            graph = moved_graph(graph, some_order(graph.size(), number))
            for position in wild_positions(graph, chance):
                for limit in (0, 1, 7, 1000):
                    found[self.check_outcome(graph, position, limit=limit)[0]] += 1
        self.assertGreater(min(found.values()), 20)

    def test_several_components(self):
        chance = random.Random(28)
        found = {"ends": 0, "never": 0, "open": 0}
        for graph in (side_by_side(KITE, path(3)), side_by_side(path(2), TRIANGLE, KITE),
                      side_by_side(KITE, star(6), KITE), MIXED, moved_graph(MIXED, some_order(14, 5)),
                      side_by_side(KITE, KITE, KITE, KITE)):
            for turn in range(30):
                position = [chance.randint(-3, 3) + 3 * (turn % 3) for node in range(graph.size())]
                for limit in (0, 2, 1000):
                    found[self.check_outcome(graph, position, limit=limit)[0]] += 1
        self.assertGreater(min(found.values()), 20)

    def test_limits_around_the_length(self):
        end, nodes = run(KITE, KITE_999, 10000)
        self.assertEqual(len(nodes), 999)
        for limit, expected in [(0, ("open", 0)), (1, ("open", 1)), (998, ("open", 998)), (999, ("ends", 999, end)),
                                (1000, ("ends", 999, end)), (10000, ("ends", 999, end))]:
            self.assertEqual(self.check_outcome(KITE, KITE_999, limit=limit), expected)
        self.assertEqual(self.check_outcome(KITE, KITE_999), ("ends", 999, end))

    def test_the_default_limit_is_1000(self):
        self.assertEqual(self.check_outcome(KITE, KITE_1001), ("open", 1000))
        position = run(KITE, KITE_1001, 1)[0]
        self.assertEqual(self.check_outcome(KITE, position)[:2], ("ends", 1000))
        self.assertEqual(self.check_outcome(KITE, KITE_1999), ("open", 1000))
        self.assertEqual(self.check_outcome(KITE, KITE_1999, limit=1999)[:2], ("ends", 1999))
        self.assertEqual(self.check_outcome(KITE, KITE_1999, limit=1998), ("open", 1998))

    def test_never_after_more_firings(self):
        self.assertEqual(self.check_outcome(KITE, KITE_LATE), ("open", 1000))
        word, nodes, weights = self.check_outcome(KITE, KITE_LATE, limit=10000)
        self.assertEqual(word, "never")
        self.assertGreater(len(nodes), 1000)
        self.assertLess(value_of(weights, play(KITE, KITE_LATE, nodes)), 0)

    def test_the_limit_is_that_of_each_wild_component(self):
        graph = side_by_side(KITE, KITE, path(2), TRIANGLE)
        great = 3 * 10 ** 50
        position = KITE_999 + KITE_1999 + [-1, -2] + [great, 1, -great]
        for limit in (998, 1000, 1998):
            self.assertEqual(self.check_outcome(graph, position, limit=limit), ("open", limit))
        word, length, reached = self.check_outcome(graph, position, limit=1999)
        self.assertEqual([word, length], ["ends", 999 + 1999 + 3 + 2 * great - 1])
        self.assertEqual(reached, run(KITE, KITE_999, 999)[0] + run(KITE, KITE_1999, 1999)[0] + [2, 1] + [0, 1, 0])
        both = side_by_side(KITE, KITE)
        self.assertEqual(self.check_outcome(both, KITE_999 + KITE_999, limit=999)[:2], ("ends", 1998))

    def test_limit_0(self):
        self.assertEqual(outcome(KITE, [1, 0, 0, 2], limit=0), ("ends", 0, [1, 0, 0, 2]))
        self.assertEqual(outcome(KITE, [1, -1, 5, 0], limit=0), ("open", 0))
        self.assertEqual(outcome(path(2), [-1, -2], limit=0), ("ends", 3, [2, 1]))
        self.assertEqual(outcome(KITE, [-1, 0, 0, 0], limit=0)[:2], ("never", []))

    def test_never_of_a_balanced_component_beside_a_wild_one(self):
        for kite, word in [([-1, 0, 0, 0], "never"), (KITE_1999, "open"), ([1, 2, 3, 4], "ends")]:
            self.assertEqual(outcome(KITE, kite)[0], word)
            for triangle in ([-1, 0, 0], [1, 0, -1], [GREAT, -GREAT, 0], [0, 0, -GREAT]):
                for graph, position, weights in [(side_by_side(KITE, TRIANGLE), kite + triangle, [0] * 4 + [1] * 3),
                                                 (side_by_side(TRIANGLE, KITE), triangle + kite, [1] * 3 + [0] * 4)]:
                    self.assertEqual(self.check_outcome(graph, position), ("never", [], weights))

    def test_never_of_any_wild_component(self):
        both = side_by_side(KITE, KITE)
        word, nodes, weights = self.check_outcome(both, KITE_1999 + [-1, 0, 0, 0])
        self.assertEqual([word, weights[:4]], ["never", [0] * 4])
        word, nodes, weights = self.check_outcome(both, [-1, 0, 0, 0] + KITE_1999)
        self.assertEqual([word, weights[4:]], ["never", [0] * 4])
        self.assertEqual(self.check_outcome(both, KITE_1999 + KITE_LATE), ("open", 1000))
        self.assertEqual(self.check_outcome(both, KITE_1999 + KITE_LATE, limit=10000)[0], "never")
        self.assertEqual(self.check_outcome(both, [1, 2, 3, 4] + KITE_1999), ("open", 1000))

    def test_great_numbers_on_wild_graphs(self):
        for graph in (KITE, GRID, star(6), star(16)):
            size = graph.size()
            for position in ([-GREAT] * size, [GREAT] * (size - 1) + [-GREAT], [10 ** 60 - 1] * (size - 1) + [-1]):
                for limit in (0, 1000, 10000):
                    self.check_outcome(graph, position, limit=limit)

    def test_invalid_limits(self):
        for limit in [-1, 10001, GREAT, -GREAT] + NOT_INTEGERS:
            for graph in (KITE, path(4), cycle(4)):
                self.assertIs(raised(InvalidLimit, outcome, graph, [1, 2, 3, -4], limit=limit).value, limit)

    def test_order_of_the_exceptions(self):
        for position in no_positions(4):
            self.assertIs(raised(InvalidPosition, outcome, KITE, position).value, position)
            self.assertIs(raised(InvalidPosition, outcome, KITE, position, limit=-1).value, position)

    def test_arguments_do_not_change_and_results_are_new(self):
        for graph, position in [(KITE, [1, -1, 5, 0]), (KITE, [-1, 0, 0, 0]), (TRIANGLE, [1, 0, -1]), (path(2), [1, 2]),
                                (KITE, KITE_1999)]:
            before = list(position)
            first = copy.deepcopy(outcome(graph, position))
            for entry in outcome(graph, position):
                if isinstance(entry, list):
                    entry.append(9)
            self.assertEqual([position, outcome(graph, position)], [before, first])

    def test_balanced_and_finite_graphs_alone(self):
        for graph in finite_graphs():
            self.assertEqual(outcome(graph, [-1] * graph.size())[0], "ends")
        for graph, weights in balanced_graphs():
            self.assertEqual(outcome(graph, [-1] * graph.size()), ("never", [], weights))
            self.assertEqual(outcome(graph, [0] * graph.size()), ("ends", 0, [0] * graph.size()))


if __name__ == "__main__":
    unittest.main()
