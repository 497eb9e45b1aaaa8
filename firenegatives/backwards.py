"""The positions that lead to an end, and the orders in which a position can be played."""

from firenegatives.checks import check_position, is_integer_within
from firenegatives.errors import InvalidLimit, NotEnded, TooMany
from firenegatives.firing import all_neighbours, has_ended
from firenegatives.parts import decided_parts
from firenegatives.reach import MOST_POSITIONS, after_flip, ends_somewhere, moves_from
from firenegatives.series import coefficients, factors

MOST_BACKWARDS = 60


def starts(graph, end, length):
    """Return, in ascending order, the positions from which a play of so many firings reaches an end."""
    check_end(graph, end, length)
    near = all_neighbours(graph)
    layer = [tuple(end)]
    for turn in range(length):
        layer = layer_before(near, layer)
        if len(layer) > MOST_POSITIONS:
            raise TooMany(MOST_POSITIONS)
    return [list(numbers) for numbers in sorted(layer)]


def start_count(graph, end, length):
    """Return how many positions there are from which a play of so many firings reaches an end.

    A graph with a wild component is rejected.
    """
    check_end(graph, end, length)
    above = []
    below = []
    for component, certificate in decided_parts(graph):
        more_above, more_below = factors(graph, component, certificate, end)
        above.extend(more_above)
        below.extend(more_below)
    return coefficients(above, below, length)[length]


def orders(graph, position):
    """Return the number of the complete plays of a position, 0 if no play ends."""
    check_position(graph.size(), position)
    moves = moves_from(graph, position)
    if not ends_somewhere(moves):
        return 0
    counts = [1] * len(moves)
    for place in reversed(range(len(moves))):
        leads = moves[place]
        if leads:
            counts[place] = sum([counts[reached] for reached in leads.values()])
    return counts[0]


def check_end(graph, end, length):
    """Reject what is no position, what is no number of firings, and then a position that has not ended."""
    check_position(graph.size(), end)
    if not is_integer_within(length, 0, MOST_BACKWARDS):
        raise InvalidLimit(length)
    if not has_ended(graph, end):
        raise NotEnded(end)


def layer_before(near, layer):
    """Return the positions from which one firing leads to one of these, each once."""
    found = {}
    for numbers in layer:
        for node, number in enumerate(numbers):
            if number > 0:
                found[after_flip(near, numbers, node)] = True
    return list(found)
