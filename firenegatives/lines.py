"""Paths and cycles in closed form: only lists of numbers, no graphs.

With the sums of the first 0, 1, 2, .. numbers, firing exchanges two neighbouring sums that are not in ascending order.
On a cycle of n numbers with the sum D the sums go on without end in both directions: the sum n places further on is
greater by D, and firing exchanges all pairs at a distance of n places at once.
"""

from firenegatives.checks import is_integer_list
from firenegatives.errors import InvalidPosition

LONGEST_LINE = 200


def path_steps(numbers):
    """Return the length of the complete plays of a path."""
    sums = checked_sums(numbers, 1)
    return sum([len([later for later in sums[place:] if later < first]) for place, first in enumerate(sums)])


def path_end(numbers):
    """Return the position that the complete plays of a path reach."""
    return differences(sorted(checked_sums(numbers, 1)))


def cycle_steps(numbers):
    """Return the length of the complete plays of a cycle, or None if no play ends."""
    sums = checked_sums(numbers, 3)
    period = sums.pop()
    if never_ends_round(numbers, period):
        return None
    if period == 0:
        return 0
    count = 0
    for place, first in enumerate(sums):
        for other, second in enumerate(sums):
            # So many of second, second + period, .. are less than first; all of them but perhaps second itself stand
            # further on.
            less = -((second - first) // period)
            behind = int(other < place)
            count += max(0, less - behind)
    return count


def cycle_end(numbers):
    """Return the position that the complete plays of a cycle reach, or None if no play ends."""
    sums = checked_sums(numbers, 3)
    period = sums.pop()
    if never_ends_round(numbers, period):
        return None
    if period == 0:
        return list(numbers)
    ordered = sorted([number % period for number in sums])
    steps_up = differences(ordered + [ordered[0] + period])
    # Exchanges leave the total of the sums of one round, which each place further on makes greater by the period.
    shift = sum([number // period for number in sums]) % len(numbers)
    return steps_up[shift:] + steps_up[:shift]


def checked_sums(numbers, fewest):
    """Return the sums of the first 0, 1, 2, .. numbers; reject what is not a list of so many integers or more."""
    if not isinstance(numbers, list) or not fewest <= len(numbers) <= LONGEST_LINE:
        raise InvalidPosition(numbers)
    if not is_integer_list(numbers, len(numbers)):
        raise InvalidPosition(numbers)
    sums = [0]
    for number in numbers:
        sums.append(sums[-1] + number)
    return sums


def differences(sums):
    """Return by how much each number is greater than the one before it."""
    return [sums[place + 1] - sums[place] for place in range(len(sums) - 1)]


def never_ends_round(numbers, period):
    """Return whether no play of a cycle with these numbers and this sum ends."""
    return period < 0 or period == 0 and any([number != 0 for number in numbers])
