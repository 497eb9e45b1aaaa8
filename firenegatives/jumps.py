"""Jumps, which bring great numbers near to 0, and the ends that are reached from there."""

from firenegatives.checks import MOST_FIRINGS, check_position, is_integer_list
from firenegatives.errors import InvalidJump
from firenegatives.firing import all_neighbours, follow, has_ended, is_position, run_in_place
from firenegatives.parts import alone, balanced_weights, check_decided, decided_parts, picked, put_back
from firenegatives.parts import scaled_shares, some_never_ends
from firenegatives.weights import excess, worth


def is_jump(graph, thing):
    """Return whether a thing is a list with one integer per node that is 0 outside the balanced components."""
    if not is_integer_list(thing, graph.size()):
        return False
    free = [0] * graph.size()
    for weights in balanced_weights(graph):
        free = [old + weight for old, weight in zip(free, weights)]
    return all([entry == 0 or weight > 0 for entry, weight in zip(thing, free)])


def jumped(graph, position, jump):
    """Return the position after adding a jump."""
    check_position(graph.size(), position)
    if not is_jump(graph, jump):
        raise InvalidJump(jump)
    near = all_neighbours(graph)
    numbers = list(position)
    for weights in balanced_weights(graph):
        times = worth(weights, position)
        for node, weight in enumerate(weights):
            if weight > 0:
                numbers[node] -= times * excess(near, jump, node)
    return numbers


def settle(graph, position):
    """Return a jump, a complete play after adding it, and the end of every complete play of the position.

    Return None if no play ends; reject a graph with a wild component.
    """
    check_position(graph.size(), position)
    parts = decided_parts(graph)
    if some_never_ends(parts, position):
        return None
    jump = [0] * graph.size()
    nodes = []
    reached = [0] * graph.size()
    for component, certificate in parts:
        found = settled_part(alone(graph, component), certificate, picked(position, component))
        put_back(jump, component, found[0])
        nodes.extend([component[place] for place in found[1]])
        put_back(reached, component, found[2])
    return jump, nodes, reached


def is_settled(graph, position, thing):
    """Return whether a thing is a tuple of a jump, a complete play after adding it, and the position it reaches.

    Where the value of a balanced component is negative, or 0 while some number is not 0, no such play is complete:
    jumps and firings leave the value, and neither of them leads from other numbers to 0 alone.
    """
    check_position(graph.size(), position)
    check_decided(graph)
    if not isinstance(thing, tuple) or len(thing) != 3:
        return False
    jump, nodes, end = thing
    if not is_jump(graph, jump) or not is_position(graph, end):
        return False
    followed = follow(graph, jumped(graph, position, jump), nodes)
    return followed is not None and has_ended(graph, followed[0]) and followed[0] == end


def settled_part(part, certificate, numbers):
    """Return what settle returns for a finite or balanced component alone on which plays end."""
    near = all_neighbours(part)
    jump = near_jump(certificate, numbers)
    reached = list(numbers)
    if certificate[0] == "balanced":
        times = worth(certificate[1], numbers)
        reached = [number - times * excess(near, jump, node) for node, number in enumerate(numbers)]
    # No play is as long as this limit after such jumps: see near_jump.
    nodes = run_in_place(near, reached, MOST_FIRINGS)
    return jump, nodes, reached


def near_jump(certificate, numbers):
    """Return a jump for a component alone after which its complete plays are short.

    A jump adds its entries, times the value of the component, to the shares. So the shares that are left are at most
    half the value, and each adds at most twice itself to the value of a representative or takes it away. On at most
    16 nodes there are at most 420 representatives. None is negative with more than 16 multiples of the weights, and
    of two that add up to the weights one at most is negative: that is less than 4000 firings.
    """
    times = 0
    if certificate[0] == "balanced":
        times = worth(certificate[1], numbers)
    if times == 0:
        return [0] * len(numbers)
    shares, divisor = scaled_shares(certificate, numbers)
    return [-nearest(share, divisor * times) for share in shares]


def nearest(number, divisor):
    """Return an integer that is nearest to a number divided by a positive divisor."""
    return (2 * number + divisor) // (2 * divisor)
