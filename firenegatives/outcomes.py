"""What becomes of a position: it ends, it never ends, or that is open after some firings."""

from firenegatives.checks import check_limit, check_position
from firenegatives.families import classify
from firenegatives.firing import follow, has_ended, run
from firenegatives.jumps import settled_part
from firenegatives.lengths import firings
from firenegatives.parts import alone, never_ends, picked, put_back, spread
from firenegatives.weights import is_balanced_on, is_weights, worth


def is_never(graph, position, thing):
    """Return whether a thing is a play of the position and weights that show that no play of it ends."""
    check_position(graph.size(), position)
    if not isinstance(thing, tuple) or len(thing) != 2:
        return False
    nodes, weights = thing
    followed = follow(graph, position, nodes)
    if followed is None or not is_weights(graph, weights):
        return False
    total = worth(weights, followed[0])
    return total < 0 or total == 0 and is_stuck_at_zero(graph, followed[0], weights)


def outcome(graph, position, *, limit=1000):
    """Return whether and how the plays of a position end, with at most limit firings on each wild component.

    It is ("ends", length, reached), ("never", nodes, weights) or ("open", limit).
    """
    check_position(graph.size(), position)
    check_limit(limit)
    results = outcomes_alone(graph, position, limit)
    for component, result in results:
        if result[0] == "never":
            nodes = [component[place] for place in result[1]]
            return "never", nodes, spread(graph.size(), component, result[2])
    length = 0
    reached = [0] * graph.size()
    for component, result in results:
        if result[0] == "open":
            return "open", limit
        length += result[1]
        put_back(reached, component, result[2])
    return "ends", length, reached


def is_stuck_at_zero(graph, position, weights):
    """Return whether weights are balanced on a component where some number of the position is not 0."""
    for component in graph.components():
        if is_balanced_on(graph, weights, component):
            return any([number != 0 for number in picked(position, component)])
    return False


def outcomes_alone(graph, position, limit):
    """Return the components, each with the outcome on it alone: first the finite and balanced, then the wild ones."""
    tame = []
    wild = []
    for component in graph.components():
        part = alone(graph, component)
        certificate = classify(part)
        numbers = picked(position, component)
        if certificate[0] == "wild":
            wild.append((component, wild_outcome(part, certificate[1], numbers, limit)))
        else:
            tame.append((component, tame_outcome(part, certificate, numbers)))
    return tame + wild


def tame_outcome(part, certificate, numbers):
    """Return the outcome on a finite or balanced component alone."""
    if never_ends(certificate, numbers):
        return "never", [], certificate[1]
    return "ends", firings(certificate, numbers)[0], settled_part(part, certificate, numbers)[2]


def wild_outcome(part, weights, numbers, limit):
    """Return the outcome on a wild component alone, with weights of it, after limit firings at most."""
    reached, nodes = run(part, numbers, limit)
    if has_ended(part, reached):
        return "ends", len(nodes), reached
    if worth(weights, reached) < 0:
        return "never", nodes, weights
    return "open", limit
