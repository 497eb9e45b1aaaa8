"""The three kinds of connected graphs, with their certificates."""

from firenegatives.errors import NotConnected
from firenegatives.firing import all_neighbours
from firenegatives.forms import all_units, closed_list, forms_within, is_closed_list, is_list_of_forms, mirrored
from firenegatives.weights import find_weights, is_balanced_on, is_weights


def kind(graph):
    """Return "finite", "balanced" or "wild" for a connected graph."""
    check_connected(graph)
    weights = find_weights(graph)
    if weights is None:
        return "finite"
    if is_balanced(graph, weights):
        return "balanced"
    return "wild"


def classify(graph):
    """Return the kind of a connected graph with what shows that it is of that kind."""
    named = kind(graph)
    if named == "finite":
        return named, closed_list(graph)
    weights = find_weights(graph)
    if named == "balanced":
        return named, weights, representatives(graph, weights)
    return named, weights


def is_certificate(graph, thing):
    """Return whether a thing is a tuple that classify might return, with its lists in any order."""
    check_connected(graph)
    if not isinstance(thing, tuple) or len(thing) < 2 or not isinstance(thing[0], str):
        return False
    if thing[0] == "finite" and len(thing) == 2:
        return is_closed_list(graph, thing[1])
    if thing[0] == "balanced" and len(thing) == 3:
        return is_smallest_balanced(graph, thing[1]) and are_representatives(graph, thing[1], thing[2])
    if thing[0] == "wild" and len(thing) == 2:
        return is_weights(graph, thing[1]) and not is_balanced(graph, thing[1])
    return False


def check_connected(graph):
    """Reject a graph with several components."""
    components = graph.components()
    if len(components) > 1:
        raise NotConnected(components)


def is_balanced(graph, weights):
    """Return whether weights are balanced on all nodes of a connected graph."""
    return is_balanced_on(graph, weights, list(range(graph.size())))


def representatives(graph, weights):
    """Return the representatives of a balanced graph with its smallest balanced weights in ascending order.

    Without a node of weight 1 a finite graph is left. The representatives with the entry 0 at this node are the
    forms of its closed list; each other one is what is missing from such a form to the weights.
    """
    left_out = weights.index(1)
    forms = forms_within(graph, [node for node in range(graph.size()) if node != left_out])
    others = [[weight - entry for weight, entry in zip(weights, form)] for form in forms]
    return sorted(forms + others)


def is_smallest_balanced(graph, thing):
    """Return whether a thing is the smallest balanced weights of a connected graph."""
    return is_weights(graph, thing) and is_balanced(graph, thing) and common_divisor(thing) == 1


def common_divisor(numbers):
    """Return the greatest common divisor of numbers that are not negative and not all 0."""
    found = 0
    for number in numbers:
        rest = number
        while rest != 0:
            found, rest = rest, found % rest
    return found


def lowered(form, weights):
    """Return the form less that multiple of the weights after which no entry is negative, and none could be less."""
    times = min([entry // weight for entry, weight in zip(form, weights)])
    return [entry - times * weight for entry, weight in zip(form, weights)]


def are_representatives(graph, weights, thing):
    """Return whether a thing is the representatives of a balanced graph with these weights, in any order.

    A form is in the extended list if it has no negative entry and its lowered form is among the representatives.
    The weights are their own images. So the images of the representatives tell those of the whole extended list,
    in which the image of a unit plus weights has no negative entry.
    """
    if not is_list_of_forms(graph, thing):
        return False
    known = {tuple(form): True for form in thing}
    units = all_units(graph)
    if len(known) != len(thing) or not all([tuple(lowered(form, weights)) in known for form in units]):
        return False
    near = all_neighbours(graph)
    for form in thing:
        if lowered(form, weights) != form:
            return False
        for node in range(graph.size()):
            found = mirrored(near, form, node)
            if found[node] < 0 and form != units[node]:
                return False
            if tuple(lowered(found, weights)) not in known:
                return False
    return True
