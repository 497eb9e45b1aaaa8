"""Lengths of complete plays, and the sums that they fire, without playing."""

from firenegatives.checks import check_position
from firenegatives.jumps import settled_part
from firenegatives.parts import alone, decided_parts, picked, put_back, scaled_shares, some_never_ends
from firenegatives.weights import worth


def steps(graph, position):
    """Return the length of the complete plays, or None if no play ends; reject a graph with a wild component."""
    check_position(graph.size(), position)
    parts = decided_parts(graph)
    if some_never_ends(parts, position):
        return None
    counts = [firings(certificate, picked(position, component))[0] for component, certificate in parts]
    return sum(counts)


def totals(graph, position):
    """Return, for each node, the sum of the absolute values that a complete play fires there, or None.

    It is None if no play ends; a graph with a wild component is rejected.
    """
    check_position(graph.size(), position)
    parts = decided_parts(graph)
    if some_never_ends(parts, position):
        return None
    found = [0] * graph.size()
    for component, certificate in parts:
        start = picked(position, component)
        end = settled_part(alone(graph, component), certificate, start)[2]
        put_back(found, component, part_totals(certificate, start, end))
    return found


def firings(certificate, start):
    """Return how many firings a complete play of a finite or balanced component has, and the sum of what they fire.

    Each form of the closed list, or of the extended list, that is negative at the start is one firing: of what its
    value is at the start.
    """
    period = 0
    if certificate[0] == "balanced":
        period = worth(certificate[1], start)
    count = 0
    fired = 0
    for form in certificate[-1]:
        number = worth(form, start)
        if number < 0:
            # The form with 0, 1, 2, .. times the weights added, as often as the value stays negative.
            times = 1 if period == 0 else -(number // period)
            count += times
            fired -= times * number + period * (times * (times - 1) // 2)
    return count, fired


def part_totals(certificate, start, end):
    """Return the sums that complete plays of a component from a start to its end fire at each node.

    From the start to the end the number at each node grows by twice the sum there less the sums at its neighbours.
    On a balanced component this leaves a multiple of the weights, which the sum of all firings tells.
    """
    shares, divisor = scaled_shares(certificate, [after - before for before, after in zip(start, end)])
    found = [share // divisor for share in shares]
    if certificate[0] == "finite":
        return found
    weights = certificate[1]
    times = (firings(certificate, start)[1] - sum(found)) // sum(weights)
    return [number + times * weight for number, weight in zip(found, weights)]
