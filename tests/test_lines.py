"""Paths and cycles in closed form: promises [12], [13], and what [3], [4] say of them."""

import inspect
import itertools
import random
import unittest

from firenegatives import lines
from firenegatives.errors import InvalidPosition
from firenegatives.firing import has_ended, run
from firenegatives.jumps import settle
from firenegatives.lengths import steps
from firenegatives.lines import cycle_end, cycle_steps, path_end, path_steps
from tests.samples import GREAT, NOT_INTEGERS, cycle, path, raised

FUNCTIONS = [(path_steps, 1), (path_end, 1), (cycle_steps, 3), (cycle_end, 3)]


def fired(numbers, node, closed):
    """Return the numbers of a path or of a cycle after firing a node."""
    found = list(numbers)
    for other in (node - 1, node + 1):
        if closed or 0 <= other < len(numbers):
            found[other % len(numbers)] += numbers[node]
    found[node] = -numbers[node]
    return found


def played(numbers, closed):
    """Return the length and the end of a complete play."""
    length = 0
    while min(numbers) < 0:
        numbers = fired(numbers, min(range(len(numbers)), key=lambda node: numbers[node]), closed)
        length += 1
    return length, numbers


def with_total(numbers, total):
    """Return the numbers with another last one, so that they have the given sum."""
    return numbers[:-1] + [total - sum(numbers[:-1])]


class TestExamples(unittest.TestCase):
    def test_path(self):
        self.assertEqual([path_steps([-1, -2, 5]), path_end([-1, -2, 5])], [3, [2, 1, 2]])

    def test_cycle(self):
        self.assertEqual(
            [cycle_steps([1, 1, -1]), cycle_end([1, 1, -1]), cycle_steps([1, 0, -1]), cycle_steps([0, 0, 0])],
            [1, [0, 0, 1], None, 0])


class TestInterface(unittest.TestCase):
    def test_argument_names(self):
        for function, least in FUNCTIONS:
            self.assertEqual(str(inspect.signature(function)), "(numbers)")
            self.assertEqual(function.__module__, "firenegatives.lines")
            self.assertIs(getattr(lines, function.__name__), function)
        self.assertEqual([path_steps(numbers=[-1]), path_end(numbers=[-1])], [1, [1]])
        self.assertEqual([cycle_steps(numbers=[0, 1, 0]), cycle_end(numbers=[0, 1, 0])], [0, [0, 1, 0]])

    def test_invalid_lists(self):
        for function, least in FUNCTIONS:
            right = [1] * least
            wrong = [[], right[1:], [1] * 201, [-1] * 300, tuple(right), range(3), iter(right), {1: 1, 2: 1, 3: 1},
                     {1, 2, 3}, "123", b"123", [right], object(), 5, [0] * (least - 1) + [right]]
            wrong += [thing for thing in NOT_INTEGERS if thing != [1]]
            for entry in NOT_INTEGERS:
                wrong += [right[1:] + [entry], [entry] + right[1:], [1] * 199 + [entry], [entry] * 3]
            for thing in wrong:
                self.assertIs(raised(InvalidPosition, function, thing).value, thing)
        for function in (cycle_steps, cycle_end):
            for thing in ([1], [1, 1], [0, 0], [-1, 1], [-1, -1]):
                self.assertIs(raised(InvalidPosition, function, thing).value, thing)

    def test_arguments_do_not_change_and_results_are_new(self):
        for numbers in ([-1, -2, 5], [0, 0, 0], [1, 1, 1], [3, -4, 1], [-1, -1, -1]):
            before = list(numbers)
            for function, least in FUNCTIONS:
                first = function(numbers)
                if isinstance(first, list):
                    first[0] = 99
                self.assertEqual(numbers, before)
                if isinstance(first, list):
                    self.assertNotEqual(function(numbers), first)


class TestPaths(unittest.TestCase):
    def test_short_lists(self):
        for number in (-GREAT, -1, 0, 1, GREAT):
            self.assertEqual([path_steps([number]), path_end([number])], [int(number < 0), [abs(number)]])
        for size in (1, 2, 3, 4):
            for numbers in itertools.product(range(-2, 3), repeat=size):
                end, nodes = run(path(size), list(numbers), 10000)
                self.assertEqual([path_steps(list(numbers)), path_end(list(numbers))], [len(nodes), end])

    def test_great_numbers(self):
        chance = random.Random(18)
        for size in range(1, 17):
            for bound in (9, GREAT):
                numbers = [chance.randint(-bound, bound) for place in range(size)]
                end, nodes = run(path(size), numbers, 10000)
                self.assertEqual([path_steps(numbers), path_end(numbers)], [len(nodes), end])
                self.assertEqual([steps(path(size), numbers), settle(path(size), numbers)[2]], [len(nodes), end])

    def test_200_numbers(self):
        self.assertEqual(path_steps([-1] * 200), 200 * 201 // 2)
        self.assertEqual(path_end([-1] * 200), [1] * 200)
        self.assertEqual(path_steps([-GREAT] + [0] * 199), 200)
        self.assertEqual(path_end([-GREAT] + [0] * 199), [0] * 199 + [GREAT])
        chance = random.Random(19)
        for bound in (1, 10, GREAT):
            numbers = [chance.randint(-bound, bound) for place in range(200)]
            length, end = played(numbers, False)
            self.assertEqual([path_steps(numbers), path_end(numbers)], [length, end])

    def test_each_firing(self):
        chance = random.Random(20)
        for size in (2, 3, 17, 200):
            numbers = [chance.randint(-GREAT, GREAT) for place in range(size)]
            length, end = path_steps(numbers), path_end(numbers)
            for turn in range(20):
                places = [place for place, number in enumerate(numbers) if number < 0]
                if places:
                    numbers = fired(numbers, chance.choice(places), False)
                    length -= 1
                self.assertEqual([path_steps(numbers), path_end(numbers)], [length, end])

    def test_reversed_lists(self):
        chance = random.Random(21)
        for size in (1, 2, 3, 50, 200):
            numbers = [chance.randint(-30, 30) for place in range(size)]
            self.assertEqual(path_steps(numbers[::-1]), path_steps(numbers))
            self.assertEqual(path_end(numbers[::-1]), path_end(numbers)[::-1])


class TestCycles(unittest.TestCase):
    def test_short_lists(self):
        for size in (3, 4):
            for numbers in itertools.product(range(-2, 3), repeat=size):
                numbers = list(numbers)
                if sum(numbers) < 0 or sum(numbers) == 0 and any(numbers):
                    self.assertEqual([cycle_steps(numbers), cycle_end(numbers)], [None, None])
                else:
                    end, nodes = run(cycle(size), numbers, 10000)
                    self.assertTrue(has_ended(cycle(size), end))
                    self.assertEqual([cycle_steps(numbers), cycle_end(numbers)], [len(nodes), end])

    def test_great_numbers(self):
        chance = random.Random(22)
        for size in range(3, 17):
            for bound, total in [(9, 1), (9, 40), (GREAT, 1), (GREAT, 77), (GREAT, GREAT), (5, GREAT)]:
                numbers = with_total([chance.randint(-bound, bound) for place in range(size)], total)
                self.assertEqual(cycle_steps(numbers), steps(cycle(size), numbers))
                self.assertEqual(cycle_end(numbers), settle(cycle(size), numbers)[2])

    def test_200_numbers(self):
        chance = random.Random(23)
        for bound, total in [(1, 60), (5, 300), (GREAT, 3 * GREAT)]:
            numbers = with_total([chance.randint(-bound, bound) for place in range(200)], total)
            length, end = played(numbers, True)
            self.assertEqual([cycle_steps(numbers), cycle_end(numbers)], [length, end])
        numbers = [GREAT] + [0] * 198 + [1 - GREAT]
        self.assertEqual(sum(cycle_end(numbers)), 1)
        self.assertGreaterEqual(min(cycle_end(numbers)), 0)
        self.assertGreater(cycle_steps(numbers), GREAT)

    def test_sums(self):
        for size in (3, 5, 200):
            zeros = [0] * size
            self.assertEqual([cycle_steps(zeros), cycle_end(zeros)], [0, zeros])
            for first, second in [(-1, 0), (0, -1), (-GREAT, GREAT - 1), (-GREAT, 0), (1, -1), (-1, 1),
                                  (GREAT, -GREAT)]:
                numbers = [first] + zeros[2:] + [second]
                self.assertEqual([cycle_steps(numbers), cycle_end(numbers)], [None, None])
            for first, second in [(1, 0), (0, 1), (GREAT, 0), (GREAT, GREAT)]:
                numbers = [first] + zeros[2:] + [second]
                self.assertEqual([cycle_steps(numbers), cycle_end(numbers)], [0, numbers])

    def test_each_firing(self):
        chance = random.Random(24)
        for size in (3, 4, 17, 200):
            for bound, total in [(5, 3), (GREAT, 1), (GREAT, GREAT)]:
                numbers = with_total([chance.randint(-bound, bound) for place in range(size)], total)
                length, end = cycle_steps(numbers), cycle_end(numbers)
                for turn in range(8):
                    places = [place for place, number in enumerate(numbers) if number < 0]
                    if places:
                        numbers = fired(numbers, chance.choice(places), True)
                        length -= 1
                    self.assertEqual([cycle_steps(numbers), cycle_end(numbers)], [length, end])

    def test_reversed_and_rotated_lists(self):
        chance = random.Random(25)
        for size in (3, 4, 16, 200):
            numbers = with_total([chance.randint(-30, 30) for place in range(size)], 7)
            length, end = cycle_steps(numbers), cycle_end(numbers)
            self.assertEqual([cycle_steps(numbers[::-1]), cycle_end(numbers[::-1])], [length, end[::-1]])
            for shift in (1, 2, size - 1):
                rotated = numbers[shift:] + numbers[:shift]
                self.assertEqual([cycle_steps(rotated), cycle_end(rotated)], [length, end[shift:] + end[:shift]])


if __name__ == "__main__":
    unittest.main()
