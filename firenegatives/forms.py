"""Forms and their images, and the closed lists of graphs."""

from firenegatives.checks import check_form, check_node, check_position, is_integer_list
from firenegatives.firing import all_neighbours
from firenegatives.weights import excess, find_weights, worth


def unit(graph, node):
    """Return the form with the entry 1 at the node and 0 elsewhere."""
    check_node(graph.size(), node)
    return [int(other == node) for other in range(graph.size())]


def value(graph, form, position):
    """Return the sum, over all nodes, of the entry of the form times the number."""
    check_form(graph.size(), form)
    check_position(graph.size(), position)
    return worth(form, position)


def image(graph, form, node):
    """Return the form whose value before flipping the node is that of the form after it."""
    check_form(graph.size(), form)
    check_node(graph.size(), node)
    return mirrored(all_neighbours(graph), form, node)


def closed_list(graph):
    """Return the closed list of the graph in ascending order, or None if some component is not finite."""
    if find_weights(graph) is not None:
        return None
    return forms_within(graph, list(range(graph.size())))


def is_closed_list(graph, thing):
    """Return whether a thing is a closed list of the graph, in any order."""
    if not is_list_of_forms(graph, thing):
        return False
    known = {tuple(form): True for form in thing}
    units = all_units(graph)
    if len(known) != len(thing) or not all([tuple(form) in known for form in units]):
        return False
    near = all_neighbours(graph)
    for form in thing:
        for node in range(graph.size()):
            if form != units[node] and tuple(mirrored(near, form, node)) not in known:
                return False
    return True


def negative_forms(graph, position):
    """Return the forms of the closed list with negative values in ascending order, or None without such a list."""
    check_position(graph.size(), position)
    forms = closed_list(graph)
    if forms is None:
        return None
    return [form for form in forms if worth(form, position) < 0]


def all_units(graph):
    """Return the list of the units of the nodes."""
    return [unit(graph, node) for node in range(graph.size())]


def mirrored(near, form, node):
    """Return the image of a form under a node; near holds the neighbours of each node."""
    found = list(form)
    found[node] += excess(near, form, node)
    return found


def is_list_of_forms(graph, thing):
    """Return whether a thing is a list of forms, each without negative entries and not all 0."""
    if not isinstance(thing, list):
        return False
    for form in thing:
        if not is_integer_list(form, graph.size()) or min(form) < 0 or max(form) == 0:
            return False
    return True


def forms_within(graph, nodes):
    """Return, in ascending order, the closed list of the subgraph on nodes where it is finite.

    The entries at the other nodes are 0. Each form but the units is the image of a smaller one, so images with a
    greater entry are enough to find them all.
    """
    near = all_neighbours(graph)
    waiting = [tuple(unit(graph, node)) for node in nodes]
    found = {form: True for form in waiting}
    while waiting:
        form = waiting.pop()
        for node in nodes:
            growth = excess(near, form, node)
            if growth > 0:
                greater = form[:node] + (form[node] + growth,) + form[node + 1:]
                if greater not in found:
                    found[greater] = True
                    waiting.append(greater)
    return [list(form) for form in sorted(list(found))]
