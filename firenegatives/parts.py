"""The components of a graph, and other parts of it, each taken as a graph of its own."""

from firenegatives.errors import Undecided
from firenegatives.families import classify, kind
from firenegatives.graphs import Graph
from firenegatives.weights import find_weights, worth


def alone(graph, nodes):
    """Return the subgraph on some nodes, which are numbered from 0 in the same order."""
    places = {node: place for place, node in enumerate(nodes)}
    edges = [(places[one], places[two]) for one, two in graph.edges() if one in places and two in places]
    return Graph(len(nodes), edges)


def picked(numbers, component):
    """Return the numbers of a component alone."""
    return [numbers[node] for node in component]


def put_back(numbers, component, part):
    """Write the numbers of a component alone into a list for the whole graph that the caller owns."""
    for node, number in zip(component, part):
        numbers[node] = number


def spread(size, component, part):
    """Return a list for a graph of that size that holds the numbers of a component, and 0 elsewhere."""
    numbers = [0] * size
    put_back(numbers, component, part)
    return numbers


def balanced_weights(graph):
    """Return the weights of each balanced component, as forms of the whole graph."""
    found = []
    for component in graph.components():
        part = alone(graph, component)
        if kind(part) == "balanced":
            found.append(spread(graph.size(), component, find_weights(part)))
    return found


def check_decided(graph):
    """Reject a graph with a wild component."""
    for component in graph.components():
        if kind(alone(graph, component)) == "wild":
            raise Undecided(component)


def decided_parts(graph):
    """Return the components with what classify returns for each alone; reject a graph with a wild one."""
    found = []
    for component in graph.components():
        certificate = classify(alone(graph, component))
        if certificate[0] == "wild":
            raise Undecided(component)
        found.append((component, certificate))
    return found


def never_ends(certificate, numbers):
    """Return whether no play of the numbers of a finite or balanced component ends."""
    if certificate[0] == "finite":
        return False
    total = worth(certificate[1], numbers)
    return total < 0 or total == 0 and any([number != 0 for number in numbers])


def some_never_ends(parts, position):
    """Return whether on some of these finite and balanced components no play ends."""
    return any([never_ends(certificate, picked(position, component)) for component, certificate in parts])


def scaled_shares(certificate, numbers):
    """Return a list and a positive divisor: divided by it, the list is the shares of the nodes.

    At each node of a finite component the number is twice the share there less the shares at its neighbours. On a
    balanced one this holds at each node but the first one with weight 1, whose share is 0. The shares need not be
    integers. That they can be computed like this is a property of the closed list of a connected graph with n nodes
    and m forms: the sum of its forms, each times its value, is 2 m / n times the shares.
    """
    if certificate[0] == "finite":
        forms, nodes = certificate[1], len(numbers)
    else:
        left_out = certificate[1].index(1)
        forms, nodes = [form for form in certificate[2] if form[left_out] == 0], len(numbers) - 1
    total = [0] * len(numbers)
    for form in forms:
        factor = worth(form, numbers)
        total = [old + factor * entry for old, entry in zip(total, form)]
    return total, 2 * len(forms) // nodes
