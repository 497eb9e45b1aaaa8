"""Values that several tests use."""

from firenegatives.graphs import Graph

GREAT = 10 ** 59 + 7

# Kinds of values that are no integer; True and False are none either.
NOT_INTEGERS = [True, False, None, 1.0, "1", "", b"1", [], [1], (), (1,), {}, {1: 2}, {1}, object(), len, int]


def path(size):
    return Graph(size, [(node, node + 1) for node in range(size - 1)])


def cycle(size):
    return Graph(size, [(node, node + 1) for node in range(size - 1)] + [(0, size - 1)])


def star(size):
    return Graph(size, [(0, node) for node in range(1, size)])


def complete_edges(size):
    return [(one, two) for one in range(size) for two in range(one + 1, size)]


def raised(error, function, *args, **named):
    """Return the exception of exactly that class that a call raises."""
    try:
        result = function(*args, **named)
    except error as caught:
        if caught.__class__ is not error:
            raise AssertionError(f"{caught.__class__} instead of {error}")
        return caught
    raise AssertionError(f"{result!r} instead of {error}")
