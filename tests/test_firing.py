"""Positions, flipping, firing and plays: promises [6], [7], [8], and what [2] and [3] say of them."""

import inspect
import unittest

from firenegatives import firing
from firenegatives.errors import InvalidLimit, InvalidNode, InvalidPlay, InvalidPosition, NotNegative
from firenegatives.firing import (
    fire, flip, has_ended, is_complete, is_play, is_position, negatives, play, run, totals_of,
)
from firenegatives.graphs import Graph
from tests.samples import GREAT, NOT_INTEGERS, cycle, no_node_lists, no_nodes, no_positions, path, raised, star

PATH = path(3)
PAIR = path(2)


class TestExamples(unittest.TestCase):
    def test_flipping(self):
        self.assertEqual([negatives(PATH, [-1, 2, -3]), fire(PATH, [-1, 2, -3], 2), flip(PATH, [-1, 2, -3], 1)],
                         [[0, 2], [-1, -1, 3], [1, -2, -1]])

    def test_plays(self):
        self.assertEqual(
            [run(PAIR, [-1, -2], 10), play(PAIR, [-1, -2], [1, 0]), is_play(PAIR, [-1, -2], [0, 0]),
             is_complete(PAIR, [-1, -2], [1, 0, 1])],
            [([2, 1], [0, 1, 0]), [3, -1], False, True])

    def test_totals(self):
        self.assertEqual([totals_of(PAIR, [-1, -2], [0, 1, 0]), totals_of(PAIR, [-1, -2], [1, 0, 1])],
                         [[3, 3], [3, 3]])


class TestInterface(unittest.TestCase):
    SIGNATURES = {
        "is_position": "(graph, thing)", "negatives": "(graph, position)", "has_ended": "(graph, position)",
        "flip": "(graph, position, node)", "fire": "(graph, position, node)", "play": "(graph, position, nodes)",
        "is_play": "(graph, position, thing)", "is_complete": "(graph, position, thing)",
        "run": "(graph, position, limit)", "totals_of": "(graph, position, nodes)",
    }

    def test_argument_names(self):
        for name, signature in self.SIGNATURES.items():
            function = getattr(firing, name)
            self.assertEqual(str(inspect.signature(function)), signature, name)
            self.assertEqual(function.__module__, "firenegatives.firing", name)

    def test_keywords(self):
        self.assertIs(is_position(thing=[1, 2], graph=PAIR), True)
        self.assertEqual(fire(node=0, position=[-1, 2], graph=PAIR), [1, 1])
        self.assertEqual(flip(node=0, position=[1, 2], graph=PAIR), [-1, 3])
        self.assertEqual(play(nodes=[0], position=[-1, 2], graph=PAIR), [1, 1])
        self.assertIs(is_play(thing=[0], position=[-1, 2], graph=PAIR), True)
        self.assertIs(is_complete(thing=[0], position=[-1, 2], graph=PAIR), True)
        self.assertEqual(run(limit=1, position=[-1, 2], graph=PAIR), ([1, 1], [0]))
        self.assertEqual(totals_of(nodes=[0], position=[-1, 2], graph=PAIR), [1, 0])


class TestIsPosition(unittest.TestCase):
    def test_positions(self):
        for numbers in ([0, 0, 0], [-1, 2, -3], [9, -9, 0], [GREAT, -GREAT, 10 ** 60 - 1], [-10 ** 999, 1, 0]):
            self.assertIs(is_position(PATH, numbers), True)
        self.assertIs(is_position(Graph(1), [-5]), True)
        self.assertIs(is_position(Graph(16), [-5] * 16), True)

    def test_no_positions(self):
        for size in (1, 2, 3, 16):
            for thing in no_positions(size):
                self.assertIs(is_position(Graph(size), thing), False, thing)

    def test_a_list_that_contains_itself(self):
        thing = [1]
        thing.append(thing)
        self.assertIs(is_position(PAIR, thing), False)


class TestNegatives(unittest.TestCase):
    def test_ascending_nodes(self):
        self.assertEqual(negatives(Graph(5), [-1, 0, -GREAT, 3, -2]), [0, 2, 4])
        self.assertEqual(negatives(Graph(16), [-1] * 16), list(range(16)))
        self.assertEqual(negatives(PATH, [0, 0, 0]), [])
        self.assertEqual(negatives(PATH, [1, GREAT, 0]), [])

    def test_has_ended(self):
        self.assertIs(has_ended(PATH, [0, 0, 0]), True)
        self.assertIs(has_ended(PATH, [GREAT, 0, 1]), True)
        self.assertIs(has_ended(PATH, [GREAT, 0, -1]), False)
        self.assertIs(has_ended(PATH, [-GREAT, 0, 1]), False)

    def test_no_positions(self):
        for position in no_positions(3):
            self.assertIs(raised(InvalidPosition, negatives, PATH, position).value, position)
            self.assertIs(raised(InvalidPosition, has_ended, PATH, position).value, position)


class TestFlip(unittest.TestCase):
    def test_any_sign(self):
        graph = star(4)
        self.assertEqual(flip(graph, [-2, 5, 0, -7], 0), [2, 3, -2, -9])
        self.assertEqual(flip(graph, [2, 5, 0, -7], 0), [-2, 7, 2, -5])
        self.assertEqual(flip(graph, [2, 5, 0, -7], 1), [7, -5, 0, -7])
        self.assertEqual(flip(graph, [2, 5, 0, -7], 2), [2, 5, 0, -7])
        self.assertEqual(flip(graph, [2, 5, 0, -7], 3), [-5, 5, 0, 7])

    def test_great_numbers(self):
        self.assertEqual(flip(PATH, [GREAT, -GREAT, 1], 1), [0, GREAT, 1 - GREAT])
        self.assertEqual(flip(PATH, [-(10 ** 60 - 1), 10 ** 60 - 1, 1], 0), [10 ** 60 - 1, 0, 1])

    def test_a_node_without_neighbours(self):
        graph = Graph(3, [(0, 2)])
        self.assertEqual(flip(graph, [1, -4, 2], 1), [1, 4, 2])
        self.assertEqual(fire(graph, [1, -4, 2], 1), [1, 4, 2])
        self.assertEqual(flip(Graph(1), [GREAT], 0), [-GREAT])

    def test_twice_restores(self):
        for graph in (PATH, cycle(5), star(6), Graph(4, [(0, 3)])):
            position = [(-3) ** node * GREAT + node for node in range(graph.size())]
            for node in range(graph.size()):
                self.assertNotEqual(flip(graph, position, node), position)
                self.assertEqual(flip(graph, flip(graph, position, node), node), position)

    def test_fire_at_each_sign(self):
        self.assertEqual(fire(PATH, [3, -2, 0], 1), [1, 2, -2])
        self.assertEqual(fire(PATH, [3, -GREAT, 0], 1), [3 - GREAT, GREAT, -GREAT])
        self.assertEqual(raised(NotNegative, fire, PATH, [3, -2, 0], 0).value, 0)
        self.assertEqual(raised(NotNegative, fire, PATH, [3, -2, 0], 2).value, 2)

    def test_wrong_arguments(self):
        for function in (flip, fire):
            for position in no_positions(3):
                self.assertIs(raised(InvalidPosition, function, PATH, position, 0).value, position)
            for node in no_nodes(3):
                self.assertIs(raised(InvalidNode, function, PATH, [-1, -2, -3], node).value, node)

    def test_order_of_the_exceptions(self):
        for function in (flip, fire):
            self.assertEqual(raised(InvalidPosition, function, PATH, [1, 2], 7).value, [1, 2])
            self.assertEqual(raised(InvalidPosition, function, PATH, [1, True, 1], None).value, [1, True, 1])
        self.assertEqual(raised(InvalidNode, fire, PATH, [1, 2, 3], 3).value, 3)
        self.assertIs(raised(InvalidNode, fire, PATH, [1, 2, 3], True).value, True)

    def test_arguments_do_not_change(self):
        position = [-1, 2, -3]
        results = [flip(PATH, position, 0), fire(PATH, position, 0)]
        raised(NotNegative, fire, PATH, position, 1)
        self.assertEqual(position, [-1, 2, -3])
        for result in results:
            self.assertEqual(result, [1, 1, -3])
            result[0] = 99
        self.assertEqual([position, flip(PATH, position, 0)], [[-1, 2, -3], [1, 1, -3]])


class TestPlay(unittest.TestCase):
    def test_plays(self):
        self.assertEqual(play(PATH, [-1, 2, -3], [0, 2]), [1, -2, 3])
        self.assertEqual(play(PATH, [-1, 2, -3], [2, 0, 1]), [-1, 2, 1])
        self.assertEqual(play(PATH, [-1, 2, -3], [2, 0, 1, 0]), [1, 1, 1])
        self.assertEqual(play(PAIR, [-GREAT, -GREAT], [0, 1, 0]), [GREAT, GREAT])

    def test_the_empty_list(self):
        for position in ([-1, 2, -3], [0, 0, 0]):
            self.assertEqual(play(PATH, position, []), position)
            self.assertIsNot(play(PATH, position, []), position)
            self.assertIs(is_play(PATH, position, []), True)
            self.assertEqual(totals_of(PATH, position, []), [0, 0, 0])
        self.assertIs(is_complete(PATH, [-1, 2, -3], []), False)
        self.assertIs(is_complete(PATH, [0, 0, 0], []), True)

    def test_complete_or_not(self):
        nodes = [2, 0, 1, 0]
        for length in range(5):
            self.assertIs(is_play(PATH, [-1, 2, -3], nodes[:length]), True)
            self.assertIs(is_complete(PATH, [-1, 2, -3], nodes[:length]), length == 4)

    def test_a_play_that_is_bent_at_one_place(self):
        position = [-1, 2, -3]
        nodes = [2, 0, 1, 0]
        # 2 and 0 may be exchanged; each other change makes it something else than a complete play.
        for place in range(4):
            for node in range(3):
                bent = nodes[:place] + [node] + nodes[place + 1:]
                self.assertIs(is_complete(PATH, position, bent), bent == nodes)
        for place in range(4):
            self.assertIs(is_complete(PATH, position, nodes[:place] + nodes[place + 1:]), False)
        self.assertIs(is_complete(PATH, position, nodes + [0]), False)

    def test_a_node_that_is_not_negative_at_its_turn(self):
        for position, nodes in [([-1, 2, -3], [1]), ([-1, 0, 0], [1]), ([-1, 2, -3], [0, 0]), ([-2, 2, 0], [0, 1]),
                                ([-1, 2, -3], [0, 2, 1, 0, 1]), ([0, 0, 0], [0]), ([-1, 2, -3], [1, 0, 2])]:
            self.assertIs(raised(InvalidPlay, play, PATH, position, nodes).value, nodes)
            self.assertIs(raised(InvalidPlay, totals_of, PATH, position, nodes).value, nodes)
            self.assertIs(is_play(PATH, position, nodes), False)
            self.assertIs(is_complete(PATH, position, nodes), False)

    def test_no_lists_of_nodes(self):
        position = [-1, -1, -1]
        for nodes in no_node_lists(3):
            self.assertIs(raised(InvalidPlay, play, PATH, position, nodes).value, nodes)
            self.assertIs(raised(InvalidPlay, totals_of, PATH, position, nodes).value, nodes)
            self.assertIs(is_play(PATH, position, nodes), False)
            self.assertIs(is_complete(PATH, position, nodes), False)

    def test_no_positions(self):
        for function in (play, is_play, is_complete, totals_of):
            for position in no_positions(3):
                self.assertIs(raised(InvalidPosition, function, PATH, position, [0]).value, position)

    def test_the_position_is_checked_first(self):
        for function in (play, is_play, is_complete, totals_of):
            for nodes in ([1], None, [True], (0,)):
                self.assertEqual(raised(InvalidPosition, function, PATH, [1, 2], nodes).value, [1, 2])

    def test_arguments_do_not_change(self):
        position, nodes = [-1, 2, -3], [2, 0, 1]
        play(PATH, position, nodes)[0] = 99
        totals_of(PATH, position, nodes)[0] = 99
        is_play(PATH, position, nodes)
        is_complete(PATH, position, nodes)
        bent = [2, 0, 1, 1]
        raised(InvalidPlay, play, PATH, position, bent)
        self.assertEqual([position, nodes, bent], [[-1, 2, -3], [2, 0, 1], [2, 0, 1, 1]])
        self.assertEqual(play(PATH, position, nodes), [-1, 2, 1])
        self.assertEqual(totals_of(PATH, position, nodes), [1, 2, 3])

    def test_one_list_as_position_and_nodes(self):
        both = [-1, 0]
        self.assertIs(is_play(PAIR, both, both), False)
        both = [0, 1]
        self.assertIs(raised(InvalidPlay, play, PAIR, both, both).value, both)
        self.assertEqual(both, [0, 1])


class TestTotals(unittest.TestCase):
    def test_different_orders(self):
        for nodes in ([2, 0, 1, 0], [0, 2, 1, 0]):
            self.assertEqual(totals_of(PATH, [-1, 2, -3], nodes), [2, 2, 3])

    def test_plays_that_are_not_complete(self):
        self.assertEqual(totals_of(PATH, [-1, 2, -3], [2]), [0, 0, 3])
        self.assertEqual(totals_of(PATH, [-1, 2, -3], [2, 0]), [1, 0, 3])
        self.assertEqual(totals_of(PATH, [-1, 2, -3], [2, 0, 1]), [1, 2, 3])

    def test_great_numbers(self):
        self.assertEqual(totals_of(PAIR, [-GREAT, -2 * GREAT], [0, 1, 0]), [3 * GREAT, 3 * GREAT])


class TestRun(unittest.TestCase):
    def test_fires_the_smallest_node(self):
        self.assertEqual(run(PATH, [-1, 2, -3], 10), ([1, 1, 1], [0, 2, 1, 0]))
        self.assertEqual(run(PATH, [3, -1, -1], 10), ([1, 1, 1], [1, 2, 1]))
        self.assertEqual(run(Graph(3), [-3, -1, -2], 10), ([3, 1, 2], [0, 1, 2]))

    def test_limits_that_end_it_early(self):
        nodes = [0, 2, 1, 0]
        for limit in range(7):
            reached, fired = run(PATH, [-1, 2, -3], limit)
            self.assertEqual(fired, nodes[:limit])
            self.assertEqual(reached, play(PATH, [-1, 2, -3], nodes[:limit]))

    def test_limit_0(self):
        position = [-1, 2, -3]
        reached, fired = run(PATH, position, 0)
        self.assertEqual([reached, fired], [[-1, 2, -3], []])
        self.assertIsNot(reached, position)

    def test_a_position_that_has_ended(self):
        self.assertEqual(run(PATH, [0, 5, 0], 10000), ([0, 5, 0], []))

    def test_limit_10000(self):
        reached, fired = run(cycle(3), [0, 0, -1], 10000)
        self.assertEqual(len(fired), 10000)
        self.assertEqual(sum(reached), -1)
        self.assertEqual(run(PATH, [-1, 2, -3], 10000), ([1, 1, 1], [0, 2, 1, 0]))

    def test_exactly_as_many_firings_as_are_needed(self):
        # On a triangle the numbers move by the sum at each turn, so this takes thousands of firings.
        position = [3000, 1, -3000]
        reached, fired = run(cycle(3), position, 10000)
        self.assertTrue(has_ended(cycle(3), reached))
        self.assertEqual(run(cycle(3), position, len(fired)), (reached, fired))
        self.assertFalse(has_ended(cycle(3), run(cycle(3), position, len(fired) - 1)[0]))

    def test_a_position_without_an_end(self):
        graph = Graph(5, [(one, two) for one in range(5) for two in range(one + 1, 5)])
        position = [-GREAT, 0, 3, -1, 0]
        reached, fired = run(graph, position, 10000)
        self.assertEqual(len(fired), 10000)
        for node in fired:
            self.assertEqual(node, negatives(graph, position)[0])
            position = fire(graph, position, node)
        self.assertEqual(position, reached)

    def test_invalid_limits(self):
        for limit in [-1, 10001, GREAT, -GREAT] + NOT_INTEGERS:
            self.assertIs(raised(InvalidLimit, run, PATH, [-1, 2, -3], limit).value, limit)
            self.assertIs(raised(InvalidLimit, run, PATH, [1, 2, 3], limit).value, limit)

    def test_order_of_the_exceptions(self):
        for position in no_positions(3):
            self.assertIs(raised(InvalidPosition, run, PATH, position, 10).value, position)
            self.assertIs(raised(InvalidPosition, run, PATH, position, -1).value, position)

    def test_result_is_a_tuple_of_new_lists(self):
        position = [-1, 2, -3]
        result = run(PATH, position, 10)
        self.assertIsInstance(result, tuple)
        result[0].clear()
        result[1].clear()
        self.assertEqual(position, [-1, 2, -3])
        self.assertEqual(run(PATH, position, 10), ([1, 1, 1], [0, 2, 1, 0]))


if __name__ == "__main__":
    unittest.main()
