"""Two plays of a position that meet, and plays that are completed."""

from firenegatives.checks import MOST_FIRINGS, check_node, check_position
from firenegatives.errors import Endless, InvalidNode, NotNegative, TooMany, Undecided
from firenegatives.firing import play, run
from firenegatives.outcomes import outcome
from firenegatives.parts import alone, picked


def meet(graph, position, one, two):
    """Return two shortest plays that begin with one and with two and reach the same position, and that position."""
    check_position(graph.size(), position)
    check_node(graph.size(), one)
    check_node(graph.size(), two)
    if one == two:
        raise InvalidNode(two)
    for node in (one, two):
        if position[node] >= 0:
            raise NotNegative(node)
    first = [one, two]
    second = [two, one]
    if two in graph.neighbours(one):
        first.append(one)
        second.append(two)
    return first, second, play(graph, position, first)


def complete_with(graph, position, nodes):
    """Return a complete play that begins with a play of the position."""
    reached = play(graph, position, nodes)
    result = outcome(graph, reached)
    if result[0] == "never":
        raise Endless(reached)
    if result[0] == "open":
        raise Undecided(first_open(graph, reached))
    length = result[1]
    if length > MOST_FIRINGS:
        raise TooMany(length)
    return nodes + run(graph, reached, MOST_FIRINGS)[1]


def first_open(graph, position):
    """Return the first component that is alone open."""
    for component in graph.components():
        if outcome(alone(graph, component), picked(position, component))[0] == "open":
            return component
    return None
