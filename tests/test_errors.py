"""The exceptions of the interface."""

import inspect
import unittest

from firenegatives import errors
from tests.samples import raised

UNDER_GRAPH_ERROR = [
    "InvalidSize", "InvalidEdge", "InvalidNode", "InvalidPosition", "InvalidForm", "InvalidPlay", "InvalidLimit",
    "InvalidJump", "InvalidSet", "InvalidPlayers", "InvalidNumber", "InvalidOperation", "InvalidOrder",
    "InvalidText", "InvalidCommand",
]
OTHERS = {
    "NoPlayer": LookupError, "NoBoard": KeyError, "NothingToUndo": IndexError, "NotNegative": RuntimeError,
    "NotEnded": RuntimeError, "NotConnected": RuntimeError, "Endless": RuntimeError, "Undecided": RuntimeError,
    "TooMany": OverflowError,
}
WITH_VALUE = UNDER_GRAPH_ERROR + [name for name in OTHERS if name != "NothingToUndo"]
NAMED_CLASSES = [ValueError, LookupError, KeyError, IndexError, RuntimeError, OverflowError]


class TestErrors(unittest.TestCase):
    def test_exactly_these_classes_are_defined(self):
        defined = [name for name, entry in vars(errors).items() if inspect.isclass(entry)]
        self.assertEqual(sorted(defined), sorted(["GraphError"] + UNDER_GRAPH_ERROR + list(OTHERS)))
        for name in defined:
            self.assertEqual(getattr(errors, name).__module__, "firenegatives.errors")

    def test_classes_directly_above(self):
        self.assertEqual(errors.GraphError.__bases__, (ValueError,))
        for name in UNDER_GRAPH_ERROR:
            self.assertEqual(getattr(errors, name).__bases__, (errors.GraphError,), name)
        for name, base in OTHERS.items():
            self.assertEqual(getattr(errors, name).__bases__, (base,), name)

    def test_under_no_other_named_class(self):
        expected = {name: ValueError for name in UNDER_GRAPH_ERROR + ["GraphError"]} | OTHERS
        for name, base in expected.items():
            for named in NAMED_CLASSES:
                self.assertEqual(issubclass(getattr(errors, name), named), issubclass(base, named), (name, named))

    def test_under_no_other_class_of_the_package(self):
        for name in UNDER_GRAPH_ERROR + list(OTHERS):
            for other in UNDER_GRAPH_ERROR + list(OTHERS):
                under = issubclass(getattr(errors, name), getattr(errors, other))
                self.assertEqual(under, name == other, (name, other))

    def test_only_fifteen_under_graph_error(self):
        for name in OTHERS:
            self.assertFalse(issubclass(getattr(errors, name), errors.GraphError), name)
        self.assertEqual(len(UNDER_GRAPH_ERROR), 15)

    def test_no_player_is_a_plain_lookup_error(self):
        self.assertTrue(issubclass(errors.NoPlayer, LookupError))
        self.assertFalse(issubclass(errors.NoPlayer, KeyError))
        self.assertFalse(issubclass(errors.NoPlayer, IndexError))

    def test_value_is_stored_by_place_and_by_name(self):
        for name in WITH_VALUE:
            made = getattr(errors, name)
            for value in (0, -1, True, None, "", "a text", (1, 2), [1, [2]], {}, object(), 10 ** 999):
                self.assertIs(made(value).value, value, name)
                self.assertIs(made(value=value).value, value, name)
                self.assertEqual(vars(made(value)), {"value": value}, name)

    def test_raised_and_caught_with_the_value(self):
        def fail(made, value):
            raise made(value)

        for name in WITH_VALUE:
            self.assertEqual(raised(getattr(errors, name), fail, getattr(errors, name), [3]).value, [3])

    def test_made_of_one_value_only(self):
        for name in WITH_VALUE:
            made = getattr(errors, name)
            self.assertIn("__init__", vars(made), name)
            self.assertEqual(list(inspect.signature(made).parameters), ["value"], name)
            with self.assertRaises(TypeError):
                made()
            with self.assertRaises(TypeError):
                made(1, 2)

    def test_nothing_to_undo_is_made_of_nothing(self):
        self.assertFalse(hasattr(errors.NothingToUndo(), "value"))
        with self.assertRaises(TypeError):
            errors.NothingToUndo(1)


if __name__ == "__main__":
    unittest.main()
