"""What the definitions say, judged without the package's own functions for it."""

import math


def near_of(graph):
    """Return the neighbours of each node, from the edges alone."""
    near = [[] for node in range(graph.size())]
    for one, two in graph.edges():
        near[one].append(two)
        near[two].append(one)
    return near


def unit_of(size, node):
    return tuple(1 if other == node else 0 for other in range(size))


def image_of(near, form, node):
    return form[:node] + (sum(form[other] for other in near[node]) - form[node],) + form[node + 1:]


def value_of(form, numbers):
    return sum(entry * number for entry, number in zip(form, numbers))


def are_integers(entries):
    return all(isinstance(entry, int) and not isinstance(entry, bool) for entry in entries)


def are_forms(graph, forms):
    """Return whether these are different lists of integers, none negative and not all 0."""
    return (isinstance(forms, list)
            and all(isinstance(form, list) and len(form) == graph.size() and are_integers(form)
                    and min(form) >= 0 and any(form) for form in forms)
            and len({tuple(form) for form in forms}) == len(forms))


def is_closed(graph, forms):
    """Return whether forms are a closed list of the graph: [2]."""
    near, size = near_of(graph), graph.size()
    known = {tuple(form) for form in forms}
    return (are_forms(graph, forms) and all(unit_of(size, node) in known for node in range(size))
            and all(image_of(near, form, node) in known
                    for form in known for node in range(size) if form != unit_of(size, node)))


def are_weights(graph, weights):
    """Return whether a form is weights of the graph: [2]."""
    near = near_of(graph)
    return (isinstance(weights, list) and len(weights) == graph.size() and are_integers(weights)
            and min(weights) >= 0 and any(weights)
            and all(sum(weights[other] for other in near[node]) >= 2 * weights[node] for node in range(graph.size())))


def are_smallest_balanced(graph, weights):
    """Return whether a form is the smallest balanced weights of a connected graph: [2]."""
    near = near_of(graph)
    return (are_weights(graph, weights) and min(weights) > 0 and math.gcd(*weights) == 1
            and all(sum(weights[other] for other in near[node]) == 2 * weights[node] for node in range(graph.size())))


def are_representatives(graph, weights, forms):
    """Return whether forms are the representatives: [15], with the first multiples of the weights in full."""
    near, size = near_of(graph), graph.size()
    if not are_forms(graph, forms):
        return False
    if any(min(entry - weight for entry, weight in zip(form, weights)) >= 0 for form in forms):
        return False
    extended = [{tuple(entry + times * weight for entry, weight in zip(form, weights)) for form in forms}
                for times in range(5)]
    everything = set().union(*extended)
    if not all(unit_of(size, node) in everything for node in range(size)):
        return False
    # An image has one multiple of the weights more or less at most.
    return all(image_of(near, form, node) in everything
               for some in extended[:3] for form in some for node in range(size) if form != unit_of(size, node))
