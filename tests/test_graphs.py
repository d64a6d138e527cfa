"""Graphs: what is one, their order, what is shared and ringed, and the trees to which they unfold."""

import random
import unittest

from anchorpages.errors import NoDepth, NoGraph, TooLarge
from anchorpages.graphs import Graph, ordered, ringed, rows_of, shared, unfolded, unfolded_size
from anchorpages.numbers import Number
from tests import plain_graphs as plain
from tests import strange

LEAF = ("scalar", "!!str", "a")
TREES = 3000


def refusal(work, *told, **more):
    """The index with which a graph is refused, None if it is not."""
    try:
        work(*told, **more)
    except NoGraph as error:
        return error.index
    return None


def chain(count):
    return Graph([("sequence", "!!seq", (number + 1,)) for number in range(count - 1)] + [LEAF])


def ring(count, top=0):
    return Graph([("sequence", "!!seq", ((number + 1) % count,)) for number in range(count)], top)


class Graphs(unittest.TestCase):
    def test_fields(self):
        nodes = [LEAF, ("sequence", "!a", (0, 1, 1)), ("mapping", "!!b", ((0, 2), (1, 0), (0, 2))), ("sequence", "!!seq", ()), ("mapping", "!!map", ())]
        for form in (list, tuple):
            for top in range(5):
                graph = Graph(form(nodes), top)
                self.assertIs(type(graph.nodes), tuple)
                self.assertEqual(graph.nodes, tuple(nodes))
                self.assertIs(type(graph.top), int)
                self.assertEqual(graph.top, top)
        self.assertEqual(Graph(nodes).top, 0)
        self.assertEqual(Graph(top=3, nodes=nodes).top, 3)

    def test_a_list_that_is_changed_behind_it(self):
        nodes = [LEAF, ("sequence", "!!seq", (0,))]
        graph = Graph(nodes, 1)
        nodes[0] = ("scalar", "!!str", "b")
        nodes.append(LEAF)
        self.assertEqual(graph.nodes, (LEAF, ("sequence", "!!seq", (0,))))
        del nodes[:]
        self.assertEqual(ordered(graph).nodes, (("sequence", "!!seq", (1,)), LEAF))

    def test_equal(self):
        nodes = [LEAF, ("sequence", "!!seq", (0,)), LEAF]
        graph = Graph(nodes, 1)
        self.assertTrue(graph == Graph(tuple(nodes), 1))
        self.assertFalse(graph != Graph(tuple(nodes), 1))
        others = [Graph(nodes), Graph(nodes, 2), Graph(nodes + [LEAF], 1), Graph(nodes[:2], 1), Graph([LEAF, ("sequence", "!!seq", (2,)), LEAF], 1),
                  Graph([LEAF, ("sequence", "!!sea", (0,)), LEAF], 1), Graph([("scalar", "!!str", "b")] + nodes[1:], 1)]
        for other in others + strange.ALL + [graph.nodes, (graph.nodes, 1), [graph], Number("!!int", "0")]:
            with self.subTest(other=other):
                self.assertFalse(graph == other)
                self.assertTrue(graph != other)
                self.assertFalse(other == graph)
        self.assertNotEqual(Graph([LEAF, LEAF], 0), Graph([LEAF, LEAF], 1))

    def test_any_string_is_a_content(self):
        for text in ("", " ", "\n", "\x00", "\u20ac", "%", "a" * 5000, "12", "!!str"):
            for tag in ("!!int", "!!seq", "!!map", "!!null", "!a", "!!str"):
                self.assertEqual(Graph([("scalar", tag, text)]).nodes[0][2], text)
        # Whether a collection can have a tag is not looked at either.
        Graph([("sequence", "!!str", ()), ("mapping", "!!seq", ()), ("sequence", "!!map", ())])

    def test_nodes_that_are_none(self):
        wrong = [thing for thing in strange.ALL] + [
            ("scalar", "!!str"), ("scalar", "!!str", "a", "b"), ["scalar", "!!str", "a"], ("scalar",), ("Scalar", "!!str", "a"), ("scalars", "!!str", "a"),
            ("alias", "!!str", "a"), ("close",), ("other", "!!seq", ()), ("map", "!!map", ()), ("", "!!seq", ()), ("Sequence", "!!seq", ()),
            (None, "!!seq", ()), (("sequence",), "!!seq", ()), ("sequence", "!!seq", [0]), ("sequence", "!!seq", 0), ("sequence", "!!seq", "a"), ("sequence", "!!seq", None),
            ("sequence", "!!seq", {0: 1}), ("sequence", "!!seq", (2,)), ("sequence", "!!seq", (-1,)), ("sequence", "!!seq", (0, 1, 2)),
            ("sequence", "!!seq", (True,)), ("sequence", "!!seq", (0, False)), ("sequence", "!!seq", ("0",)), ("sequence", "!!seq", (0.0,)),
            ("sequence", "!!seq", ((0, 0),)), ("sequence", "!!seq", (None,)), ("mapping", "!!map", (0, 1)), ("mapping", "!!map", ((0,),)),
            ("mapping", "!!map", ((0, 1, 0),)), ("mapping", "!!map", ([0, 1],)), ("mapping", "!!map", ((0, 2),)), ("mapping", "!!map", ((2, 0),)),
            ("mapping", "!!map", ((0, -1),)), ("mapping", "!!map", ((True, 0),)), ("mapping", "!!map", ((0, False),)), ("mapping", "!!map", [(0, 1)]),
            ("mapping", "!!map", {0: 1}), ("mapping", "!!map", ((0, 1), None)), ("mapping", "!!map", ("ab",)), ("mapping", "!!map", "a"),
            ("mapping", "!!map", None), ("scalar", "!!str", None), ("scalar", "!!str", b"a"), ("scalar", "!!str", 1), ("scalar", "!!str", ("a",)),
            ("scalar", "!!str", ()), (b"scalar", "!!str", "a"), (None, "!!str", "a"), (["scalar"], "!!str", "a"), ({}, "!!str", "a"), (str, "!!str", "a")]
        wrong.extend(("scalar", tag, "a") for tag in strange.ALL if tag != "!!str")
        wrong.extend(("sequence", tag, ()) for tag in ("", "!", "!!", "a", "!a b", "!!!a", "!a!", "!!a,", "!<a>", "!\u20ac", "!a\n"))
        for thing in wrong:
            with self.subTest(thing=thing):
                self.assertEqual(refusal(Graph, [thing]), 0)
                self.assertEqual(refusal(Graph, (LEAF, thing)), 1)
                self.assertEqual(refusal(Graph, [thing, thing], 9), 0)

    def test_what_is_no_list(self):
        for thing in strange.NO_LISTS:
            with self.subTest(thing=thing):
                self.assertEqual(refusal(Graph, thing), -1)
                self.assertEqual(refusal(Graph, thing, None), -1)
        self.assertEqual(refusal(Graph, []), -1)
        self.assertEqual(refusal(Graph, ()), -1)
        self.assertEqual(refusal(Graph, [], 7), -1)

    def test_tops(self):
        for thing in strange.ALL:
            if type(thing) is not int or thing not in (0, 1):
                with self.subTest(thing=thing):
                    self.assertEqual(refusal(Graph, [LEAF, LEAF], thing), -2)
                    self.assertEqual(refusal(Graph, nodes=(LEAF, LEAF), top=thing), -2)
        self.assertEqual(refusal(Graph, [LEAF, LEAF], 2), -2)

    def test_order_of_errors(self):
        bad = ("scalar", "!!str", None)
        self.assertEqual(refusal(Graph, [LEAF, bad, bad], "a"), 1)
        self.assertEqual(refusal(Graph, [LEAF] * 201, "a"), -1)
        # Of several errors the one that is listed first: the node that is none, ahead of -1 and of -2.
        self.assertEqual(refusal(Graph, [LEAF] * 200 + [bad], "a"), 200)
        self.assertEqual(refusal(Graph, [("sequence", "!!seq", (201,))] + [LEAF] * 200), 0)

    def test_bounds(self):
        self.assertEqual(len(Graph([LEAF] * 200).nodes), 200)
        self.assertEqual(refusal(Graph, [LEAF] * 201), -1)
        self.assertEqual(refusal(Graph, (LEAF,) * 201), -1)
        self.assertEqual(refusal(Graph, [LEAF] * 200, 200), -2)
        self.assertIsNone(refusal(Graph, [LEAF] * 200, 199))
        self.assertIsNone(refusal(Graph, [LEAF, ("sequence", "!!seq", (0,) * 1000)]))
        self.assertEqual(refusal(Graph, [LEAF, ("sequence", "!!seq", (0,) * 1001)]), 1)
        self.assertIsNone(refusal(Graph, [LEAF, ("mapping", "!!map", ((0, 1),) * 500)]))
        self.assertEqual(refusal(Graph, [LEAF, ("mapping", "!!map", ((0, 1),) * 501)]), 1)
        self.assertIsNone(refusal(Graph, [("sequence", "!!seq", (199,))] + [LEAF] * 199))
        self.assertEqual(refusal(Graph, [("sequence", "!!seq", (200,))] + [LEAF] * 199), 0)

    def test_functions_refuse_what_is_no_graph(self):
        for thing in strange.NO_GRAPHS:
            with self.subTest(thing=thing):
                for work in (ordered, shared, ringed, rows_of):
                    self.assertEqual(refusal(work, thing), -3)
                    self.assertEqual(refusal(work, graph=thing), -3)
                for work in (unfolded, unfolded_size):
                    self.assertEqual(refusal(work, thing, 1), -3)
                    self.assertEqual(refusal(work, thing, None), -3)
                    self.assertEqual(refusal(work, depth=-1, graph=thing), -3)


class Orders(unittest.TestCase):
    def test_by_hand(self):
        graph = Graph([LEAF, ("mapping", "!!map", ((2, 0), (0, 1))), ("sequence", "!!seq", (3, 0, 1)), ("scalar", "!a", "b"), ("sequence", "!!seq", (4, 1))], 1)
        self.assertEqual(ordered(graph), Graph([("mapping", "!!map", ((1, 3), (3, 0))), ("sequence", "!!seq", (2, 3, 0)), ("scalar", "!a", "b"), LEAF]))
        self.assertEqual(shared(graph), [0, 1])
        self.assertEqual(ringed(graph), [1, 2])
        self.assertEqual(ordered(Graph(graph.nodes, 3)), Graph([("scalar", "!a", "b")]))
        self.assertEqual(shared(Graph(graph.nodes, 4)), [0, 1, 4])
        self.assertEqual(ringed(Graph(graph.nodes, 4)), [1, 2, 4])

    def test_keys_come_ahead_of_values(self):
        graph = Graph([("mapping", "!!map", ((4, 3), (2, 1))), LEAF, LEAF, LEAF, ("sequence", "!!seq", (1,))])
        self.assertEqual(ordered(graph), Graph([("mapping", "!!map", ((1, 3), (4, 2))), ("sequence", "!!seq", (2,)), LEAF, LEAF, LEAF]))

    def test_shared_counts_places(self):
        self.assertEqual(shared(Graph([LEAF])), [])
        self.assertEqual(shared(Graph([("sequence", "!!seq", (0,))])), [0])
        self.assertEqual(shared(Graph([("mapping", "!!map", ((1, 1),)), LEAF])), [1])
        self.assertEqual(shared(Graph([("mapping", "!!map", ((1, 2), (1, 2))), LEAF, LEAF])), [1, 2])
        # What stands in nodes that are not met does not count.
        self.assertEqual(shared(Graph([("sequence", "!!seq", (1,)), LEAF, ("sequence", "!!seq", (0, 1, 1))])), [])
        self.assertEqual(ringed(Graph([("sequence", "!!seq", (1,)), LEAF, ("sequence", "!!seq", (2,))])), [])

    def test_against_the_plain_way(self):
        chance = random.Random(41)
        for _ in range(3000):
            drawn = plain.draw(chance, 7, many=4)
            for graph in [drawn] + [Graph(drawn.nodes, top) for top in range(len(drawn.nodes))]:
                told = ordered(graph)
                self.assertEqual(told, plain.in_order(graph))
                self.assertEqual(ordered(told), told)
                many = plain.places(graph)
                self.assertEqual(shared(graph), sorted(number for number in many if many[number] > 1))
                ways = plain.steps(graph)
                self.assertEqual(ringed(graph), sorted(number for number in many if (number, number) in ways))

    def test_all_small_graphs(self):
        for graph in plain.small_graphs(2):
            met = plain.order(graph)
            self.assertEqual(ordered(graph), plain.in_order(graph))
            ways = plain.steps(graph)
            self.assertEqual(ringed(graph), sorted(number for number in met if (number, number) in ways))

    def test_long_ones(self):
        self.assertEqual(ordered(chain(200)), chain(200))
        self.assertEqual(shared(chain(200)), [])
        self.assertEqual(ringed(chain(200)), [])
        for top in (0, 1, 100, 199):
            self.assertEqual(ordered(ring(200, top)), ring(200))
            self.assertEqual(shared(ring(200, top)), [top])
            self.assertEqual(ringed(ring(200, top)), list(range(200)))
        nest = Graph([("mapping", "!!map", ((number + 1, number + 1),)) for number in range(199)] + [LEAF])
        self.assertEqual(ordered(nest), nest)
        self.assertEqual(shared(nest), list(range(1, 200)))
        back = Graph([LEAF] + [("sequence", "!!seq", (number - 1,)) for number in range(1, 200)], 199)
        self.assertEqual(ordered(back), chain(200))
        many = Graph([LEAF, ("sequence", "!!seq", (0,) * 999)], 1)
        self.assertEqual(shared(many), [0])
        self.assertEqual(ordered(many), Graph([("sequence", "!!seq", (1,) * 999), LEAF]))

    def test_what_is_returned_is_new(self):
        graph = ring(3)
        for work in (shared, ringed, rows_of):
            told = work(graph)
            self.assertIs(type(told), list)
            told.append("a")
            self.assertNotEqual(work(graph), told)
        self.assertIsNot(ordered(graph), graph)
        self.assertIs(type(ordered(graph)), Graph)
        self.assertEqual(graph, ring(3))


class Trees(unittest.TestCase):
    def test_by_hand(self):
        graph = Graph([("sequence", "!a", (1, 0)), ("mapping", "!!map", ((2, 0), (2, 2))), LEAF])
        self.assertEqual(unfolded(graph, 0), ("sequence", "!a", 2))
        self.assertEqual(unfolded(graph, 1), ("sequence", "!a", (("mapping", "!!map", None), ("sequence", "!a", 2))))
        self.assertEqual(unfolded(graph, 2), ("sequence", "!a", (
            ("mapping", "!!map", ((LEAF, ("sequence", "!a", 2)), (LEAF, LEAF))), unfolded(graph, 1))))
        self.assertEqual([unfolded_size(graph, depth) for depth in range(4)], [1, 3, 9, 17])
        empty = Graph([("sequence", "!!seq", ()), ("mapping", "!!map", ())])
        self.assertEqual([unfolded(empty, depth) for depth in (0, 1, 50)], [("sequence", "!!seq", 0), ("sequence", "!!seq", ()), ("sequence", "!!seq", ())])
        empty = Graph(empty.nodes, 1)
        self.assertEqual([unfolded(empty, depth) for depth in (0, 1, 50)], [("mapping", "!!map", None), ("mapping", "!!map", ()), ("mapping", "!!map", ())])
        for depth in (0, 1, 50):
            self.assertEqual(unfolded(Graph([LEAF]), depth), LEAF)
            self.assertEqual(unfolded_size(Graph([LEAF]), depth), 1)

    def test_against_the_plain_way(self):
        chance = random.Random(44)
        for _ in range(1500):
            graph = plain.draw(chance, 5, many=3)
            for depth in range(5):
                told = plain.tree(graph, depth)
                self.assertEqual(unfolded_size(graph, depth), plain.count_trees(told))
                if plain.count_trees(told) <= TREES:
                    self.assertEqual(unfolded(graph, depth), told)
                    self.assertIs(type(unfolded(graph, depth)), tuple)
                else:
                    with self.assertRaises(TooLarge):
                        unfolded(graph, depth)

    def test_depths(self):
        graph = ring(1)
        told = ("sequence", "!!seq", 1)
        for _ in range(50):
            told = ("sequence", "!!seq", (told,))
        self.assertEqual(unfolded(graph, 50), told)
        self.assertEqual(unfolded(chain(200), 1), ("sequence", "!!seq", (("sequence", "!!seq", 1),)))
        self.assertEqual(unfolded_size(graph, 100), 101)
        self.assertEqual(unfolded_size(chain(200), 100), 101)
        self.assertEqual(unfolded_size(chain(50), 100), 50)
        for depth in strange.ALL:
            whole = type(depth) is int
            for work, most in ((unfolded, 50), (unfolded_size, 100)):
                with self.subTest(work=work, depth=depth):
                    if whole and 0 <= depth <= most:
                        work(graph, depth)
                        continue
                    with self.assertRaises(NoDepth) as caught:
                        work(graph, depth)
                    self.assertIs(caught.exception.depth, depth)
                    with self.assertRaises(NoDepth):
                        work(depth=depth, graph=graph)

    def test_too_large(self):
        def wide(many):
            return Graph([("sequence", "!!seq", (1, 1) + (2,) * many), ("sequence", "!!seq", (2,) * 1000), LEAF])
        self.assertEqual(unfolded_size(wide(997), 2), 3000)
        self.assertEqual(unfolded(wide(997), 2), plain.tree(wide(997), 2))
        bigger = wide(998)
        self.assertEqual(unfolded_size(bigger, 2), 3001)
        with self.assertRaises(TooLarge) as caught:
            unfolded(bigger, 2)
        self.assertEqual(caught.exception.limit, 3000)
        self.assertEqual(unfolded(bigger, 1), plain.tree(bigger, 1))
        # The depth is asked ahead of the trees.
        with self.assertRaises(NoDepth):
            unfolded(bigger, 51)

    def test_far_too_many(self):
        graph = Graph([("sequence", "!!seq", (0,) * 1000)])
        self.assertEqual(unfolded_size(graph, 100), sum(1000 ** depth for depth in range(101)))
        pairs = Graph([("mapping", "!!map", ((0, 0),) * 500)])
        self.assertEqual(unfolded_size(pairs, 99), sum(1000 ** depth for depth in range(100)))
        for each in (graph, pairs):
            with self.assertRaises(TooLarge):
                unfolded(each, 50)
        # Trees that do not stand at the top are no matter, however large they are.
        aside = Graph([("sequence", "!!seq", (0,) * 1000), ("sequence", "!!seq", (1,))], 1)
        self.assertEqual(unfolded_size(aside, 50), 51)
        self.assertEqual(unfolded(aside, 50), unfolded(ring(1), 50))


if __name__ == "__main__":
    unittest.main()
