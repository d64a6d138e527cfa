"""Which nodes and graphs are equal, which are alike, and papers that prove it."""

import itertools
import random
import time
import unittest

from anchorpages.errors import LikeKeys, NoGraph, NoNode
from anchorpages.graphs import Graph, graph_of, ordered, rows_of
from anchorpages.likeness import alike, apart, equal, judged, least, like_keys, paper_of, parted_at, parts
from tests import plain_graphs as plain
from tests import strange

LEAF = ("scalar", "!!str", "a")
SECONDS = 1.0


def ring(count, marked=(), kind="sequence"):
    """A ring of collections with one node in each, some of them with another tag."""
    nodes = []
    for number in range(count):
        tag = "!marked" if number in marked else "!plain"
        step = (number + 1) % count
        nodes.append((kind, tag, (step,) if kind == "sequence" else ((step, step),)))
    return Graph(nodes)


def chain(count, last, kind="sequence"):
    nodes = [(kind, "!a", (number + 1,) if kind == "sequence" else ((number + 1, number + 1),)) for number in range(count - 1)]
    return Graph(nodes + [("scalar", "!!str", last)])


def drawn(seed, rounds, **more):
    chance = random.Random(seed)
    for _ in range(rounds):
        graph = plain.draw(chance, **more)
        way = chance.randrange(4)
        if way == 0:
            other = plain.draw(chance, **more)
        elif way == 1:
            other = plain.spread(chance, graph)
        elif way == 2:
            other = plain.shuffled(chance, plain.spread(chance, graph), doubling=True)
        else:
            other = plain.shuffled(chance, graph)
        yield graph, other


def refused_keys(work, *told):
    try:
        return work(*told)
    except LikeKeys as error:
        return LikeKeys, error.place


class Rounds(unittest.TestCase):
    def test_by_hand(self):
        one = Graph([("sequence", "!!seq", (0,))])
        two = Graph([("sequence", "!!seq", (1,)), ("sequence", "!!seq", (0,))])
        three = Graph([("sequence", "!!seq", (1,)), ("sequence", "!!seq", ())])
        self.assertIs(equal(one, two), True)
        self.assertIs(equal(one, three), False)
        self.assertIsNone(apart(one, two))
        self.assertEqual(apart(one, three), 1)
        self.assertEqual(apart(one, Graph(three.nodes, 1)), 0)
        self.assertEqual(parts(two), [0, 0])
        self.assertEqual(parts(three), [0, 1])
        self.assertEqual(parted_at(three, 0, 1), 0)
        self.assertIsNone(parted_at(two, 1, 0))

    def test_round_nought(self):
        leaves = [LEAF, ("scalar", "!!str", "b"), ("scalar", "!other", "a"), ("sequence", "!!str", ()), ("mapping", "!!str", ()), ("sequence", "!!str", (0,)),
                  ("mapping", "!other", ())]
        graph = Graph(leaves + [("mapping", "!!str", ((0, 1),)), ("mapping", "!!str", ((1, 0), (0, 0)))])
        for one, other in itertools.permutations(range(7), 2):
            self.assertEqual(parted_at(graph, one, other), 0)
        # How many entries a mapping has is not seen in round 0.
        self.assertEqual(parted_at(graph, 4, 7), 1)
        self.assertEqual(parted_at(graph, 4, 8), 1)
        self.assertEqual(parted_at(graph, 7, 8), 1)
        self.assertEqual(parts(graph), list(range(9)))

    def test_entries_in_other_orders_and_doubled(self):
        leaves = [("scalar", "!!str", text) for text in "abcd"]
        graph = Graph(leaves + [("mapping", "!!map", entries) for entries in (
            ((0, 1), (2, 3)), ((2, 3), (0, 1)), ((0, 1), (2, 3), (0, 1)), ((0, 1),), ((0, 3), (2, 1)), ((0, 1), (2, 3), (2, 1)))])
        self.assertEqual(parts(graph), [0, 1, 2, 3, 4, 4, 4, 7, 8, 9])
        self.assertEqual([parted_at(graph, 4, other) for other in range(4, 10)], [None, None, None, 1, 1, 1])

    def test_against_a_table_of_all_pairs(self):
        kinds = (("scalar", "sequence", "mapping"), ("sequence",), ("mapping",), ("sequence", "mapping"), ("scalar", "mapping", "mapping"))
        for seed, shape in enumerate(kinds):
            for graph, other in drawn(seed, 500, most=6, kinds=shape, texts="aab", tags=1 + seed % 2):
                rounds = plain.tables(graph, other)
                self.assertEqual(apart(graph, other), plain.first_apart(rounds, (graph.top, other.top)))
                self.assertIs(equal(graph, other), (graph.top, other.top) in rounds[-1])
                for each in (graph, other):
                    rounds = plain.tables(each, each)
                    numbers = range(len(each.nodes))
                    self.assertEqual(parts(each), [min(mate for mate in numbers if (number, mate) in rounds[-1]) for number in numbers])
                    # It is decided in at most as many rounds as there are nodes.
                    self.assertLessEqual(len(rounds), len(numbers))
                    for pair in itertools.product(numbers, repeat=2):
                        self.assertEqual(parted_at(each, *pair), plain.first_apart(rounds, pair))

    def test_all_small_graphs(self):
        graphs = list(plain.small_graphs(2))
        for graph in graphs:
            rounds = plain.tables(graph, graph)
            self.assertEqual(parted_at(graph, 0, len(graph.nodes) - 1), plain.first_apart(rounds, (0, len(graph.nodes) - 1)))
        for graph, other in itertools.product(graphs[::7], graphs[::5]):
            self.assertEqual(apart(graph, other), plain.first_apart(plain.tables(graph, other), (graph.top, other.top)))

    def test_rounds_are_depths_of_trees(self):
        for graph, other in drawn(9, 400, most=4, texts="ab", many=2):
            rounds = apart(graph, other)
            for depth in range(6):
                same = plain.without_order(plain.tree(graph, depth)) == plain.without_order(plain.tree(other, depth))
                self.assertEqual(same, rounds is None or depth < rounds)

    def test_rings_that_part_late(self):
        self.assertIsNone(apart(ring(199), ring(200)))
        self.assertEqual(apart(ring(199, (0,)), ring(200, (0,))), 199)
        self.assertEqual(apart(ring(200, (0,)), ring(199, (0,))), 199)
        # Both words begin alike and go round: 7 and 5 of them, so the first difference is far behind.
        for one, other in ((7, 5), (12, 18), (21, 13)):
            for marks in ((0,), (one - 1,), (0, 2)):
                left, right = ring(one, marks), ring(other, [mark for mark in marks if mark < other])
                told = plain.first_apart(plain.tables(left, right), (0, 0))
                self.assertEqual(apart(left, right), told)
        self.assertIsNone(apart(ring(6, (0, 3)), ring(9, (0, 3, 6))))
        self.assertEqual(apart(chain(200, "a"), chain(200, "b")), 199)
        self.assertEqual(apart(chain(200, "a"), chain(199, "a")), 198)
        self.assertEqual(parted_at(chain(200, "a"), 0, 1), 198)
        self.assertEqual(parts(chain(200, "a")), list(range(200)))
        self.assertEqual(parts(ring(200)), [0] * 200)
        self.assertEqual(parts(ring(200, (0, 50, 100, 150))), list(range(50)) * 4)
        self.assertEqual(parts(ring(200, (0,), "mapping")), list(range(200)))

    def test_dense_graphs_in_a_short_time(self):
        started = time.perf_counter()
        for kind in ("sequence", "mapping"):
            for last in "ab":
                graphs = []
                for text in ("a", last):
                    contents = [tuple([number + 1] * 10) if kind == "sequence" else tuple([(number + 1, number + 1)] * 5) for number in range(199)]
                    graphs.append(Graph([(kind, "!a", content) for content in contents] + [("scalar", "!!str", text)]))
                self.assertEqual(apart(*graphs), None if last == "a" else 199)
        chance = random.Random(8)
        nodes = [("sequence", "!a", tuple([(number + 1) % 200] + [chance.randrange(200) for _ in range(9)])) for number in range(199)]
        graph = Graph(nodes + [LEAF])
        other = plain.shuffled(chance, graph)
        self.assertIsNone(apart(graph, other))
        self.assertEqual(ordered(least(graph)), least(other))
        self.assertEqual(len(alike(graph, other)), 200)
        self.assertIsNone(judged(graph, other, paper_of(graph, other)))
        self.assertIsNone(alike(ring(199), ring(200)))
        self.assertEqual(len(paper_of(ring(199), ring(200))), 199 * 200)
        self.assertLess(time.perf_counter() - started, 4 * SECONDS)

    def test_numbers_of_nodes(self):
        graph = chain(5, "a")
        for thing in strange.ALL:
            if type(thing) is int and 0 <= thing < 5:
                continue
            with self.subTest(thing=thing):
                for told in ((thing, 0), (4, thing), (thing, None), (thing, thing)):
                    with self.assertRaises(NoNode) as caught:
                        parted_at(graph, *told)
                    self.assertIs(caught.exception.number, thing)
                with self.assertRaises(NoNode):
                    parted_at(other=thing, one=1, graph=graph)
        with self.assertRaises(NoNode) as caught:
            parted_at(graph, 5, 6)
        self.assertEqual(caught.exception.number, 5)


class Keys(unittest.TestCase):
    def test_by_hand(self):
        graph = graph_of([
            ("mapping", None, "!!map"), ("scalar", None, "!!str", "k"), ("mapping", None, "!!map"), ("scalar", None, "!!str", "b"), ("scalar", None, "!!str", "1"),
            ("scalar", None, "!!str", "b"), ("scalar", None, "!!str", "1"), ("scalar", None, "!!str", "b"), ("scalar", None, "!!str", "2"), ("close",),
            ("scalar", None, "!!str", "k"), ("scalar", None, "!!str", "b"), ("close",)])
        self.assertEqual(like_keys(graph), [(0, 1), (2, 1), (2, 2)])
        self.assertEqual(like_keys(Graph([LEAF])), [])
        self.assertEqual(like_keys(Graph([LEAF, ("mapping", "!!map", ((0, 0), (0, 0)))])), [(1, 1)])
        rings = Graph([("mapping", "!!map", ((1, 3), (2, 3))), ("sequence", "!!seq", (1,)), ("sequence", "!!seq", (1,)), LEAF])
        self.assertEqual(like_keys(rings), [(0, 1)])
        own = Graph([("mapping", "!!map", ((0, 1), (0, 1))), LEAF])
        self.assertEqual(like_keys(own), [(0, 1)])

    def test_against_the_plain_way(self):
        found = 0
        for graph, other in drawn(12, 1500, most=6, texts="ab", many=4, kinds=("scalar", "sequence", "mapping", "mapping")):
            for each in (graph, other):
                self.assertEqual(like_keys(each), plain.like(each))
                found += len(like_keys(each))
        self.assertGreater(found, 1000)


class Alike(unittest.TestCase):
    def test_by_hand(self):
        graph = Graph([("mapping", "!!map", ((1, 2), (3, 4))), LEAF, LEAF, ("scalar", "!!str", "b"), ("sequence", "!!seq", (0, 1))])
        other = Graph([("sequence", "!!seq", (4, 3)), ("scalar", "!!str", "b"), LEAF, LEAF, ("mapping", "!!map", ((1, 0), (3, 2)))], 4)
        self.assertEqual(alike(graph, other), [(0, 4), (1, 3), (2, 2), (3, 1), (4, 0)])
        self.assertEqual(alike(other, graph), [(0, 4), (1, 3), (2, 2), (3, 1), (4, 0)])
        # Equal graphs of which one shares a node and the other one does not are not alike.
        self.assertTrue(equal(graph, Graph(graph.nodes[:4] + (("sequence", "!!seq", (0, 2)),))))
        self.assertIsNone(alike(graph, Graph(graph.nodes[:4] + (("sequence", "!!seq", (0, 2)),))))
        self.assertIsNone(alike(ring(2), ring(1)))
        self.assertIsNone(alike(ring(1), ring(2)))
        self.assertIsNone(alike(ring(1), Graph([LEAF])))
        self.assertEqual(alike(Graph([LEAF, LEAF], 1), Graph([LEAF])), [(1, 0)])

    def test_like_keys_are_refused(self):
        good = Graph([LEAF])
        bad = Graph([LEAF, ("mapping", "!!map", ((0, 0), (0, 1), (0, 0)))], 1)
        unmet = Graph([LEAF, LEAF, ("mapping", "!!map", ((0, 0), (1, 1)))])
        self.assertEqual(refused_keys(least, bad), (LikeKeys, (1, 1)))
        self.assertEqual(refused_keys(least, unmet), (LikeKeys, (2, 1)))
        self.assertEqual(refused_keys(alike, good, bad), (LikeKeys, (1, 1)))
        self.assertEqual(refused_keys(alike, good, unmet), (LikeKeys, (2, 1)))
        self.assertEqual(refused_keys(alike, unmet, bad), (LikeKeys, (2, 1)))
        self.assertEqual(refused_keys(alike, bad, unmet), (LikeKeys, (1, 1)))
        self.assertEqual(refused_keys(alike, unmet, good), (LikeKeys, (2, 1)))

    def test_against_all_ways(self):
        ways = 0
        for graph, other in drawn(13, 2500, most=4, texts="aab", many=3):
            expected = [(LikeKeys, plain.like(each)[0]) for each in (graph, other) if plain.like(each)]
            if not expected:
                found = plain.one_to_one(graph, other)
                self.assertLessEqual(len(found), 1)
                expected = found or [None]
                ways += len(found)
            told = refused_keys(alike, graph, other)
            self.assertEqual(told, expected[0])
            if type(told) is list:
                self.assertTrue(equal(graph, other))
        self.assertGreater(ways, 300)

    def test_sharing_is_told_apart(self):
        chance = random.Random(14)
        for _ in range(1500):
            graph = plain.draw(chance, 3, texts="ab", many=2)
            other = plain.spread(chance, graph)
            if plain.like(graph) or plain.like(other) or len(plain.order(other)) > 5:
                continue
            self.assertEqual([alike(graph, other)], plain.one_to_one(graph, other) or [None])

    def test_many_entries_in_any_order(self):
        chance = random.Random(15)
        for many in (1, 2, 8, 40, 65):
            nodes = [("mapping", "!!map", tuple((3 * number + 1, 3 * number + 2) for number in range(many)))]
            for number in range(many):
                nodes.extend([("scalar", "!!str", str(number)), ("sequence", "!!seq", (0, 3 * number + 3)), LEAF])
            graph = Graph(nodes)
            other = plain.shuffled(chance, graph)
            told = alike(graph, other)
            self.assertEqual([one for one, _ in told], list(range(3 * many + 1)))
            way = dict(told)
            self.assertTrue(all(plain.goes(graph.nodes[one], other.nodes[way[one]], way) for one in way))
            self.assertEqual(refused_keys(least, graph), refused_keys(least, Graph(graph.nodes)))
            changed = list(other.nodes)
            place = way[1]
            changed[place] = ("scalar", "!!str", "other")
            self.assertIsNone(alike(graph, Graph(changed, other.top)))

    def test_long_chains(self):
        for kind in ("sequence", "mapping"):
            graph = chain(200, "a", kind)
            other = plain.shuffled(random.Random(16), graph)
            self.assertEqual(len(alike(graph, other)), 200)
            self.assertIsNone(alike(graph, chain(199, "a", kind)))
            self.assertIsNone(alike(graph, chain(200, "b", kind)))
            self.assertEqual(least(other), graph)


class Least(unittest.TestCase):
    def test_by_hand(self):
        graph = Graph([("sequence", "!!seq", (2, 1, 3)), LEAF, LEAF, ("sequence", "!!seq", (1, 2, 0)), LEAF])
        self.assertEqual(least(graph), Graph([("sequence", "!!seq", (1, 1, 0)), LEAF]))
        graph = Graph([("sequence", "!!seq", (2, 1, 3)), LEAF, LEAF, ("sequence", "!other", (1, 2, 0)), LEAF])
        self.assertEqual(least(graph), Graph([("sequence", "!!seq", (1, 1, 2)), LEAF, ("sequence", "!other", (1, 1, 0))]))
        self.assertEqual(least(ring(200)), ring(1))
        self.assertEqual(least(ring(200, (0, 50, 100, 150))), ring(50, (0,)))
        self.assertEqual(least(Graph([LEAF, LEAF], 1)), Graph([LEAF]))
        # Of equal mappings the one that comes first stays, with the order of its entries.
        leaves = (LEAF, ("scalar", "!!str", "b"))
        maps = (("mapping", "!!map", ((0, 1), (1, 0))), ("mapping", "!!map", ((1, 0), (0, 1))))
        told = least(Graph(leaves + maps + (("sequence", "!!seq", (3, 2)),), 4))
        self.assertEqual(told, Graph([("sequence", "!!seq", (1, 1)), ("mapping", "!!map", ((2, 3), (3, 2))), leaves[1], leaves[0]]))

    def test_facts(self):
        seen = 0
        for graph, other in drawn(17, 2500, most=5, texts="ab", many=3):
            if plain.like(graph) or plain.like(other):
                continue
            one, two = least(graph), least(other)
            self.assertTrue(equal(graph, one))
            self.assertEqual(parts(one), list(range(len(one.nodes))))
            self.assertEqual(ordered(one), one)
            self.assertEqual(least(one), one)
            self.assertEqual(equal(graph, other), alike(one, two) is not None)
            self.assertEqual(one, self.plain_least(graph))
            seen += equal(graph, other)
        self.assertGreater(seen, 200)

    def plain_least(self, graph):
        """Told by the words of the document: the first ones of the order stay, and all tell these."""
        same = plain.tables(graph, graph)[-1]
        met = plain.order(graph)
        stays = {number: next(first for first in met if (first, number) in same) for number in met}
        nodes = []
        for number, (kind, tag, content) in enumerate(graph.nodes):
            if number in stays and kind == "sequence":
                content = tuple(stays[part] for part in content)
            elif number in stays and kind == "mapping":
                content = tuple((stays[key], stays[value]) for key, value in content)
            nodes.append((kind, tag, content))
        return plain.in_order(Graph(nodes, graph.top))


class Papers(unittest.TestCase):
    def test_by_hand(self):
        one, two = ring(1), ring(2)
        self.assertEqual(sorted(paper_of(one, two)), [(0, 0), (0, 1)])
        self.assertIsNone(judged(one, two, [(0, 0), (0, 1)]))
        self.assertIsNone(judged(one, two, ((0, 1), (0, 0))))
        self.assertEqual(judged(one, two, [(0, 0)]), 0)
        self.assertEqual(judged(one, two, [(0, 1)]), 0)
        self.assertEqual(judged(one, two, [(0, 0), (0, 1), (0, 0)]), 2)
        self.assertEqual(judged(one, two, []), 0)
        self.assertEqual(judged(one, two, ()), 0)
        self.assertEqual(judged(one, two, None), -1)
        self.assertEqual(judged(one, Graph([LEAF]), [(0, 0)]), 0)
        leaves = Graph([LEAF, LEAF, ("scalar", "!!str", "b")])
        self.assertEqual(judged(leaves, leaves, [(1, 1), (0, 1)]), 2)
        self.assertIsNone(judged(leaves, leaves, [(1, 1), (0, 1), (0, 0)]))
        self.assertEqual(judged(leaves, leaves, [(1, 2), (0, 0)]), 0)
        self.assertIsNone(paper_of(ring(3), ring(3, (1,))))

    def test_bools_are_no_numbers(self):
        leaves = Graph([LEAF, LEAF])
        self.assertEqual(judged(leaves, leaves, [(False, 0)]), 0)
        self.assertEqual(judged(leaves, leaves, [(0, 0), (True, 0)]), 1)
        self.assertEqual(judged(leaves, leaves, [(0, 0), (0, False)]), 1)
        self.assertEqual(judged(leaves, leaves, [(0, 0), (0.0, 0)]), 1)
        # (True, 0) equals (1, 0), but is not in the paper as this pair: what needs it does not stand.
        graph = Graph([("sequence", "!!seq", (1,)), LEAF])
        other = Graph([LEAF, ("sequence", "!!seq", (0,))], 1)
        self.assertIsNone(judged(graph, other, [(0, 1), (1, 0)]))
        self.assertEqual(judged(graph, other, [(0, 1), (True, 0)]), 0)
        self.assertEqual(judged(graph, other, [(0, 1), (1.0, 0)]), 0)

    def test_strange_papers(self):
        one, two = ring(1), ring(2)
        for thing in strange.ALL:
            with self.subTest(thing=thing):
                if isinstance(thing, (list, tuple)):
                    self.assertEqual(judged(one, two, thing), plain.judge(one, two, thing))
                else:
                    self.assertEqual(judged(one, two, thing), -1)
                for paper in ([(0, 0), (0, 1), thing], ((0, 0), thing, (0, 1)), [thing, thing], [(thing, 0)], [(0, 0), (0, 1), (0, thing)]):
                    self.assertEqual(judged(one, two, paper), plain.judge(one, two, paper))
        for element in ((0,), (0, 0, 0), [0, 0], (0, 2), (1, 0), (-1, 0), (0, -1), ((0, 0),), "00", ("0", "0"), {0: 0}, {0, 1}):
            self.assertEqual(judged(one, two, [(0, 0), element, (0, 1)]), 1)

    def test_papers_of_drawn_graphs(self):
        for graph, other in drawn(18, 2500, most=5, texts="ab", many=3, tags=2):
            paper = paper_of(graph, other)
            if not equal(graph, other):
                self.assertIsNone(paper)
                continue
            self.assertIs(type(paper), list)
            self.assertIsNone(judged(graph, other, paper))
            self.assertIsNone(plain.judge(graph, other, paper))
            self.assertIsNone(judged(graph, other, tuple(paper[::-1])))
            self.assertIsNone(judged(other, graph, [(two, one) for one, two in paper]))

    def test_spoilt_papers(self):
        chance = random.Random(19)
        verdicts = {}
        for graph, other in drawn(20, 3000, most=4, texts="ab", many=3):
            paper = paper_of(graph, other)
            if paper is None:
                paper = sorted(plain.tables(graph, other)[-1])
            for _ in range(3):
                spoilt = list(paper)
                place = chance.randrange(len(spoilt) + 1)
                way = chance.randrange(5)
                if way == 0:
                    del spoilt[place:place + 1]
                elif way == 1 and spoilt:
                    spoilt.insert(place, chance.choice(spoilt))
                elif way == 2 and spoilt:
                    spoilt[place:place + 1] = [pair[::-1] for pair in spoilt[place:place + 1]]
                elif way == 3:
                    spoilt.insert(place, (chance.randrange(5), chance.randrange(5)))
                else:
                    spoilt[place:place + 1] = [chance.choice([None, (0,), [0, 0], (True, 0), (0, 0, 0), "ab"])]
                verdict = judged(graph, other, spoilt)
                self.assertEqual(verdict, plain.judge(graph, other, spoilt))
                verdicts[verdict] = verdicts.get(verdict, 0) + 1
        self.assertGreater(verdicts[None], 100)
        self.assertGreater(len(verdicts), 5)

    def test_a_paper_is_there_just_for_equal_graphs(self):
        for graph, other in drawn(21, 150, most=2, texts="ab", many=2):
            pairs = list(itertools.product(range(len(graph.nodes)), range(len(other.nodes))))
            if len(pairs) > 6:
                continue
            papers = [paper for many in range(len(pairs) + 1) for paper in itertools.combinations(pairs, many) if judged(graph, other, paper) is None]
            self.assertEqual(bool(papers), equal(graph, other))
            for paper in papers:
                self.assertIsNone(plain.judge(graph, other, paper))

    def test_mappings_need_both_ways(self):
        leaves = (LEAF, ("scalar", "!!str", "b"))
        more = Graph(leaves + (("mapping", "!!map", ((0, 0), (1, 1))),), 2)
        fewer = Graph(leaves + (("mapping", "!!map", ((0, 0),)),), 2)
        paper = [(0, 0), (1, 1), (2, 2)]
        self.assertIsNone(judged(more, more, paper))
        self.assertEqual(judged(more, fewer, paper), 2)
        self.assertEqual(judged(fewer, more, paper), 2)
        self.assertEqual(judged(more, more, [(2, 2), (0, 0)]), 0)
        # Keys and values must be there for one and the same entry.
        turned = Graph(leaves + (("mapping", "!!map", ((0, 1), (1, 0))),), 2)
        self.assertEqual(judged(more, turned, paper), 2)

    def test_large_papers(self):
        started = time.perf_counter()
        graph = Graph([("mapping", "!!map", ((1, 1),) * 500), LEAF])
        self.assertIsNone(judged(graph, graph, paper_of(graph, graph)))
        graph = Graph([("mapping", "!!map", tuple((number, number) for number in range(1, 41)))] + [LEAF] * 40)
        paper = [(0, 0)] + list(itertools.product(range(1, 41), repeat=2))
        self.assertIsNone(judged(graph, graph, paper))
        self.assertIsNone(judged(graph, graph, paper[::-1]))
        self.assertEqual(judged(graph, graph, paper[1:]), 1600)
        self.assertLess(time.perf_counter() - started, SECONDS)


class Arguments(unittest.TestCase):
    def test_what_is_no_graph(self):
        graph = ring(2)
        bad = Graph([LEAF, ("mapping", "!!map", ((0, 0), (0, 1), (0, 0)))], 1)
        for thing in strange.NO_GRAPHS:
            with self.subTest(thing=thing):
                for work in (parts, like_keys, least):
                    self.assert_refused(work, thing)
                for work in (equal, apart, alike, paper_of):
                    self.assert_refused(work, thing, graph)
                    self.assert_refused(work, bad, thing)
                    self.assert_refused(work, thing, None)
                self.assert_refused(parted_at, thing, -1, None)
                self.assert_refused(judged, thing, graph, [])
                self.assert_refused(judged, graph, thing, None)

    def assert_refused(self, work, *told):
        with self.assertRaises(NoGraph) as caught:
            work(*told)
        self.assertEqual(caught.exception.index, -3)

    def test_names(self):
        graph, other = ring(1), ring(2)
        self.assertEqual(parts(graph=other), [0, 0])
        self.assertIsNone(parted_at(graph=other, one=0, other=1))
        self.assertTrue(equal(other=other, graph=graph))
        self.assertIsNone(apart(graph=graph, other=other))
        self.assertEqual(like_keys(graph=graph), [])
        self.assertIsNone(alike(graph=graph, other=other))
        self.assertEqual(least(graph=other), graph)
        self.assertIsNone(judged(paper=paper_of(graph=graph, other=other), other=other, graph=graph))

    def test_nothing_is_changed(self):
        graph, other = ring(3), ring(6)
        paper = paper_of(graph, other)
        before = list(paper)
        for work in (lambda: parts(other), lambda: like_keys(other), lambda: alike(graph, graph), lambda: paper_of(graph, other)):
            told = work()
            self.assertIs(type(told), list)
            told.append("a")
            self.assertNotEqual(work(), told)
        judged(graph, other, paper)
        self.assertEqual(paper, before)
        self.assertEqual((graph, other), (ring(3), ring(6)))
        self.assertEqual(rows_of(graph), rows_of(ring(3)))


if __name__ == "__main__":
    unittest.main()
