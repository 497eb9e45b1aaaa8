"""Checks of arguments that several files of the package share."""

from firenegatives.errors import InvalidForm, InvalidLimit, InvalidNode, InvalidNumber, InvalidPosition, NoPlayer

MOST_FIRINGS = 10000


def is_integer(thing):
    """Return whether a thing is an integer; True and False are none."""
    return isinstance(thing, int) and not isinstance(thing, bool)


def is_integer_within(thing, low, high):
    """Return whether a thing is an integer from low to high."""
    return is_integer(thing) and low <= thing <= high


def is_integer_list(thing, length):
    """Return whether a thing is a list of so many integers."""
    return isinstance(thing, list) and len(thing) == length and all([is_integer(entry) for entry in thing])


def is_node(size, thing):
    """Return whether a thing is a node of a graph of that size."""
    return is_integer_within(thing, 0, size - 1)


def is_node_list(size, thing):
    """Return whether a thing is a list of nodes of a graph of that size."""
    return isinstance(thing, list) and all([is_node(size, entry) for entry in thing])


def check_node(size, node):
    """Reject what is not a node of a graph of that size."""
    if not is_node(size, node):
        raise InvalidNode(node)


def check_position(size, position):
    """Reject what is not a position of a graph of that size."""
    if not is_integer_list(position, size):
        raise InvalidPosition(position)


def check_form(size, form):
    """Reject what is not a form of a graph of that size."""
    if not is_integer_list(form, size):
        raise InvalidForm(form)


def check_limit(limit):
    """Reject what is not a number of firings that a caller may allow."""
    if not is_integer_within(limit, 0, MOST_FIRINGS):
        raise InvalidLimit(limit)


def check_number(number):
    """Reject what is no number for a node."""
    if not is_integer(number):
        raise InvalidNumber(number)


def check_player(count, player):
    """Reject what is none of so many players."""
    if not is_integer_within(player, 0, count - 1):
        raise NoPlayer(player)
