"""Nodes that are fired at once, and plays in rounds of such nodes."""

from firenegatives.checks import check_limit, check_position, is_node_list
from firenegatives.errors import InvalidSet, NotNegative
from firenegatives.firing import all_neighbours, flip_in_place
from firenegatives.reach import ends_somewhere, moves_from


def fire_set(graph, position, nodes):
    """Return the position after firing different nodes, of which no two are neighbours, at once."""
    check_position(graph.size(), position)
    near = all_neighbours(graph)
    if not is_node_list(graph.size(), nodes) or not are_apart(near, nodes):
        raise InvalidSet(nodes)
    for node in nodes:
        if position[node] >= 0:
            raise NotNegative(node)
    numbers = list(position)
    fire_apart(near, numbers, nodes)
    return numbers


def rounds(graph, position, limit):
    """Fire in each round the negative nodes, but none beside a smaller one of that round.

    Stop when the position has ended or limit rounds are done; return the position that is reached and the rounds.
    """
    check_position(graph.size(), position)
    check_limit(limit)
    near = all_neighbours(graph)
    numbers = list(position)
    done = []
    while len(done) < limit:
        nodes = next_round(near, numbers)
        if not nodes:
            break
        fire_apart(near, numbers, nodes)
        done.append(nodes)
    return numbers, done


def fewest_rounds(graph, position):
    """Return the first one of the shortest lists of sets that are fired until a position has ended, or None."""
    check_position(graph.size(), position)
    moves = moves_from(graph, position)
    if not ends_somewhere(moves):
        return None
    near = all_neighbours(graph)
    left = rounds_left(near, moves)
    done = []
    place = 0
    while left[place] > 0:
        nodes, place = min([pair for pair in sets_at(near, moves, place) if left[pair[1]] == left[place] - 1])
        done.append(nodes)
    return done


def are_apart(near, nodes):
    """Return whether nodes are different and no two of them are neighbours."""
    for place, node in enumerate(nodes):
        for other in nodes[:place]:
            if other == node or other in near[node]:
                return False
    return True


def fire_apart(near, numbers, nodes):
    """Fire nodes of which no two are neighbours, so that none changes another, in a list that the caller owns."""
    for node in nodes:
        flip_in_place(numbers, node, near[node])


def next_round(near, numbers):
    """Return the negative nodes, in ascending order, without those beside one that was taken before."""
    taken = []
    for node, number in enumerate(numbers):
        if number < 0 and are_apart(near, taken + [node]):
            taken.append(node)
    return taken


def rounds_left(near, moves):
    """Return, for each position of moves_from, how many rounds are needed at least until it has ended."""
    left = [0] * len(moves)
    for place in reversed(range(len(moves))):
        if moves[place]:
            left[place] = 1 + min([left[reached] for nodes, reached in sets_at(near, moves, place)])
    return left


def sets_at(near, moves, place):
    """Return the sets that can be fired at once in a position, as ascending lists, each with the place it leads to."""
    found = [([], place)]
    for node in moves[place]:
        # A node that is no neighbour of those fired before is still negative.
        found = found + [(nodes + [node], moves[reached][node]) for nodes, reached in found
                         if not any([other in near[node] for other in nodes])]
    return found[1:]
