"""The positions that plays of a position reach, as far as there are not too many of them."""

from firenegatives.errors import TooMany
from firenegatives.firing import all_neighbours, flip_in_place

MOST_POSITIONS = 2000


def after_flip(near, numbers, node):
    """Return the tuple of the numbers after flipping a node; near holds the neighbours of each node."""
    flipped = list(numbers)
    flip_in_place(flipped, node, near[node])
    return tuple(flipped)


def moves_from(graph, position):
    """Return a list with a dict for each position that plays of a position reach, itself included.

    The dict has the negative nodes as its keys, in ascending order; at each of them stands the place in the list of
    the position after firing it. The position itself is at the place 0. If plays end, firing leads to later places
    only: a position that is reached by more firings stands behind those that are reached by fewer.
    """
    near = all_neighbours(graph)
    waiting = [tuple(position)]
    places = {waiting[0]: 0}
    moves = []
    while len(moves) < len(waiting):
        numbers = waiting[len(moves)]
        leads = {}
        for node, number in enumerate(numbers):
            if number < 0:
                reached = after_flip(near, numbers, node)
                if reached not in places:
                    places[reached] = len(waiting)
                    waiting.append(reached)
                leads[node] = places[reached]
        if len(waiting) > MOST_POSITIONS:
            raise TooMany(MOST_POSITIONS)
        moves.append(leads)
    return moves


def ends_somewhere(moves):
    """Return whether plays end, given what moves_from returns."""
    return not all([len(leads) > 0 for leads in moves])
