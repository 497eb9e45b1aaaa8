"""The exceptions of the package: one for each kind of failure."""


class GraphError(ValueError):
    """What the exceptions for rejected arguments have in common; never raised itself."""


class InvalidSize(GraphError):
    """A size of a graph that is not an integer from 1 to 16, or a sum of sizes beyond 16."""

    def __init__(self, value):
        self.value = value


class InvalidEdge(GraphError):
    """An edge that is none of the graph, that is there already, or that cannot be removed."""

    def __init__(self, value):
        self.value = value


class InvalidNode(GraphError):
    """A node that the graph does not have."""

    def __init__(self, value):
        self.value = value


class InvalidPosition(GraphError):
    """A position that is not a list with one integer per node."""

    def __init__(self, value):
        self.value = value


class InvalidForm(GraphError):
    """A form that is not a list with one integer per node."""

    def __init__(self, value):
        self.value = value


class InvalidPlay(GraphError):
    """A list of nodes that is not a play of the position."""

    def __init__(self, value):
        self.value = value


class InvalidLimit(GraphError):
    """A limit or a length that is not an integer within its bounds."""

    def __init__(self, value):
        self.value = value


class InvalidJump(GraphError):
    """A jump that does not fit the graph."""

    def __init__(self, value):
        self.value = value


class InvalidSet(GraphError):
    """Nodes that cannot be fired at once."""

    def __init__(self, value):
        self.value = value


class InvalidPlayers(GraphError):
    """A number of players that is not an integer from 1 to 8."""

    def __init__(self, value):
        self.value = value


class InvalidNumber(GraphError):
    """A number for a node that is not an integer."""

    def __init__(self, value):
        self.value = value


class InvalidOperation(GraphError):
    """An entry of operations performed together that is none."""

    def __init__(self, value):
        self.value = value


class InvalidOrder(GraphError):
    """An order that does not contain each node once."""

    def __init__(self, value):
        self.value = value


class InvalidText(GraphError):
    """A text that is not one of a position: the number of its first wrong row."""

    def __init__(self, value):
        self.value = value


class InvalidCommand(GraphError):
    """A line that is no command of the console."""

    def __init__(self, value):
        self.value = value


class NoPlayer(LookupError):
    """A player that the board does not have."""

    def __init__(self, value):
        self.value = value


class NoBoard(KeyError):
    """A name under which the console keeps no board."""

    def __init__(self, value):
        self.value = value


class NothingToUndo(IndexError):
    """A board without an operation that can be undone."""

    def __init__(self):
        IndexError.__init__(self)


class NotNegative(RuntimeError):
    """A node whose number is not negative when it is to be fired."""

    def __init__(self, value):
        self.value = value


class NotEnded(RuntimeError):
    """A position that has a negative number where an ended one is required."""

    def __init__(self, value):
        self.value = value


class NotConnected(RuntimeError):
    """A graph of several components where a connected one is required."""

    def __init__(self, value):
        self.value = value


class Endless(RuntimeError):
    """A position from which no play ends."""

    def __init__(self, value):
        self.value = value


class Undecided(RuntimeError):
    """A wild component, on which the question is not decided."""

    def __init__(self, value):
        self.value = value


class TooMany(OverflowError):
    """A number of things that is beyond what is allowed."""

    def __init__(self, value):
        self.value = value
