"""Graphs: promise [5], and what [2] and [3] say of them."""

import inspect
import itertools
import unittest

from firenegatives.errors import InvalidEdge, InvalidNode, InvalidSize, TooMany
from firenegatives.graphs import Graph
from tests.samples import GREAT, NOT_INTEGERS, complete_edges, path, raised


class TestExamples(unittest.TestCase):
    def test_first_example(self):
        graph = Graph(4, [(2, 1), (0, 1)])
        self.assertEqual([repr(graph), graph.neighbours(1), graph.components(), len(graph)],
                         ["Graph(4, [(0, 1), (1, 2)])", [0, 2], [[0, 1, 2], [3]], 2])

    def test_second_example(self):
        self.assertEqual(raised(InvalidEdge, Graph, 3, [(0, 1), (1, 0)]).value, (1, 0))

    def test_example_of_repr(self):
        self.assertEqual(repr(Graph(3, [(0, 1), (1, 2)])), "Graph(3, [(0, 1), (1, 2)])")


class TestInterface(unittest.TestCase):
    def test_methods_stand_in_the_class(self):
        for name in ("__init__", "size", "edges", "neighbours", "components", "__len__", "__eq__", "__repr__"):
            self.assertIn(name, vars(Graph))
        self.assertEqual(Graph.__module__, "firenegatives.graphs")

    def test_argument_names(self):
        self.assertEqual(str(inspect.signature(Graph)), "(size, edges=())")
        self.assertEqual(Graph(edges=[(1, 0)], size=2).edges(), [(0, 1)])
        self.assertEqual(Graph(2, [(0, 1)]).neighbours(node=0), [1])


class TestSize(unittest.TestCase):
    def test_valid_sizes(self):
        for size in range(1, 17):
            graph = Graph(size)
            self.assertEqual(graph.size(), size)
            self.assertEqual(graph.edges(), [])
            self.assertEqual(graph.components(), [[node] for node in range(size)])

    def test_invalid_sizes(self):
        for size in [0, 17, -1, 100, GREAT, -GREAT]:
            self.assertEqual(raised(InvalidSize, Graph, size).value, size)

    def test_other_kinds(self):
        for size in NOT_INTEGERS:
            self.assertIs(raised(InvalidSize, Graph, size).value, size)

    def test_size_is_checked_before_the_edges(self):
        self.assertEqual(raised(InvalidSize, Graph, 0, [(0, 0)]).value, 0)
        self.assertEqual(raised(InvalidSize, Graph, 17, None).value, 17)
        self.assertIs(raised(InvalidSize, Graph, True, complete_edges(10)).value, True)


class TestEdges(unittest.TestCase):
    def test_list_tuple_order_and_direction(self):
        edges = [(0, 3), (1, 2), (2, 3)]
        for turned in itertools.product([False, True], repeat=3):
            passed = [edge[::-1] if turn else edge for edge, turn in zip(edges, turned)]
            for ordered in itertools.permutations(passed):
                self.assertEqual(Graph(4, list(ordered)).edges(), edges)
                self.assertEqual(Graph(4, ordered).edges(), edges)

    def test_edges_are_tuples_in_a_list(self):
        edges = Graph(12, ((10, 2), (9, 11), (2, 1))).edges()
        self.assertEqual(edges, [(1, 2), (2, 10), (9, 11)])
        self.assertIsInstance(edges, list)
        self.assertTrue(all(isinstance(edge, tuple) for edge in edges))

    def test_no_edges(self):
        for graph in (Graph(3), Graph(3, []), Graph(3, ()), Graph(size=3, edges=[])):
            self.assertEqual(graph.edges(), [])
            self.assertEqual(len(graph), 0)

    def test_forty_edges_and_more(self):
        edges = complete_edges(10)
        self.assertEqual(len(edges), 45)
        self.assertEqual(len(Graph(10, edges[:40])), 40)
        self.assertEqual(Graph(10, edges[5:]).edges(), edges[5:])
        self.assertEqual(raised(TooMany, Graph, 10, edges[:41]).value, 41)
        self.assertEqual(raised(TooMany, Graph, 10, tuple(edges)).value, 45)
        self.assertEqual(raised(TooMany, Graph, 16, complete_edges(16)).value, 120)

    def test_edge_twice(self):
        self.assertEqual(raised(InvalidEdge, Graph, 3, [(0, 1), (1, 2), (0, 1)]).value, (0, 1))
        self.assertEqual(raised(InvalidEdge, Graph, 3, [(2, 1), (0, 1), (1, 2)]).value, (1, 2))
        self.assertEqual(raised(InvalidEdge, Graph, 3, ((1, 2), (2, 1), (0, 0))).value, (2, 1))

    def test_edge_of_a_node_with_itself(self):
        self.assertEqual(raised(InvalidEdge, Graph, 3, [(0, 1), (2, 2), (1, 1)]).value, (2, 2))

    def test_entries_that_are_no_edges(self):
        wrong = [(), (0,), (0, 1, 2), [0, 1], "01", b"01", 0, 1, None, True, {0: 1}, {0, 1}, object(),
                 (0, 3), (3, 0), (-1, 0), (0, -1), (0, GREAT), (0, 1.0), (0, "1"), (0, None), (0, [1]), ([], {}),
                 (True, 2), (2, False), ((0, 1), (1, 2))]
        for entry in wrong:
            self.assertIs(raised(InvalidEdge, Graph, 3, [(1, 2), entry, (0, 0)]).value, entry)
            self.assertIs(raised(InvalidEdge, Graph, 3, (entry,)).value, entry)

    def test_edges_that_are_neither_list_nor_tuple(self):
        for edges in [None, 0, 1, True, "", "01", b"", {}, {(0, 1): True}, {(0, 1)}, object(), iter([(0, 1)]), Graph]:
            self.assertIs(raised(InvalidEdge, Graph, 3, edges).value, edges)

    def test_tuple_of_two_nodes_is_no_tuple_of_edges(self):
        self.assertEqual(raised(InvalidEdge, Graph, 3, (2, 1)).value, 2)

    def test_every_edge_is_checked_before_their_number(self):
        edges = complete_edges(10)
        self.assertEqual(raised(InvalidEdge, Graph, 10, edges + [(1, 0)]).value, (1, 0))
        self.assertEqual(raised(InvalidEdge, Graph, 10, edges + [(0, 10)]).value, (0, 10))


class TestNeighbours(unittest.TestCase):
    def test_ascending(self):
        graph = Graph(16, [(7, 15), (0, 7), (7, 3), (11, 7), (3, 0)])
        self.assertEqual(graph.neighbours(7), [0, 3, 11, 15])
        self.assertEqual(graph.neighbours(15), [7])
        self.assertEqual(graph.neighbours(0), [3, 7])
        self.assertEqual(graph.neighbours(1), [])

    def test_no_nodes(self):
        graph = path(3)
        for node in [-1, 3, GREAT, -GREAT] + NOT_INTEGERS:
            self.assertIs(raised(InvalidNode, graph.neighbours, node).value, node)
        self.assertEqual(graph.neighbours(2), [1])


class TestComponents(unittest.TestCase):
    def test_several_components(self):
        graph = Graph(9, [(8, 0), (5, 1), (3, 5), (2, 8), (6, 7)])
        self.assertEqual(graph.components(), [[0, 2, 8], [1, 3, 5], [4], [6, 7]])

    def test_connected_graphs(self):
        self.assertEqual(path(16).components(), [list(range(16))])
        self.assertEqual(Graph(5, [(4, 0), (0, 3), (3, 1), (1, 2), (2, 4)]).components(), [[0, 1, 2, 3, 4]])
        self.assertEqual(Graph(1).components(), [[0]])


class TestCopies(unittest.TestCase):
    def test_what_is_passed_is_copied(self):
        edges = [(1, 0), (2, 1)]
        graph = Graph(3, edges)
        self.assertEqual(edges, [(1, 0), (2, 1)])
        edges.append((0, 2))
        edges[0] = "changed"
        self.assertEqual(graph.edges(), [(0, 1), (1, 2)])
        self.assertEqual(graph.neighbours(0), [1])

    def test_what_is_returned_is_new(self):
        graph = Graph(3, [(0, 1)])
        graph.edges().clear()
        graph.neighbours(0).append(2)
        graph.neighbours(2).append(0)
        graph.components()[0].append(2)
        graph.components().clear()
        self.assertEqual(graph.edges(), [(0, 1)])
        self.assertEqual([graph.neighbours(node) for node in range(3)], [[1], [0], []])
        self.assertEqual(graph.components(), [[0, 1], [2]])
        self.assertEqual([len(graph), repr(graph)], [1, "Graph(3, [(0, 1)])"])

    def test_rejected_edges_stay_as_they_are(self):
        edges = [(1, 0), (2, 1), (1, 2)]
        raised(InvalidEdge, Graph, 3, edges)
        self.assertEqual(edges, [(1, 0), (2, 1), (1, 2)])


class TestEquality(unittest.TestCase):
    def test_equal_graphs(self):
        self.assertTrue(Graph(3, [(0, 1), (1, 2)]) == Graph(3, ((2, 1), (1, 0))))
        self.assertFalse(Graph(3, [(0, 1), (1, 2)]) != Graph(3, ((2, 1), (1, 0))))
        self.assertTrue(Graph(2) == Graph(2, []))

    def test_other_graphs(self):
        self.assertFalse(Graph(3) == Graph(4))
        self.assertTrue(Graph(3) != Graph(4))
        self.assertFalse(Graph(3, [(0, 1)]) == Graph(4, [(0, 1)]))
        self.assertFalse(Graph(3, [(0, 1)]) == Graph(3, [(0, 2)]))
        self.assertFalse(Graph(3, [(0, 1)]) == Graph(3, [(0, 1), (0, 2)]))
        self.assertFalse(Graph(3, [(0, 1)]) == Graph(3))

    def test_other_values(self):
        graph = Graph(3, [(0, 1)])
        for other in ["Graph(3, [(0, 1)])", [(0, 1)], (3, [(0, 1)]), 3, None, True, {}, object(), Graph]:
            self.assertFalse(graph == other)
            self.assertFalse(other == graph)
            self.assertTrue(graph != other)


class TestRepr(unittest.TestCase):
    def test_without_edges(self):
        self.assertEqual(repr(Graph(3)), "Graph(3, [])")
        self.assertEqual(repr(Graph(16, ())), "Graph(16, [])")

    def test_with_edges(self):
        self.assertEqual(repr(Graph(2, ((1, 0),))), "Graph(2, [(0, 1)])")
        self.assertEqual(repr(Graph(12, [(11, 10), (2, 11), (3, 2)])), "Graph(12, [(2, 3), (2, 11), (10, 11)])")


if __name__ == "__main__":
    unittest.main()
