"""Rows of graphs, there and back."""

import itertools
import random
import unittest

from anchorpages.errors import NoAlias, NoRows
from anchorpages.graphs import Graph, graph_of, ordered, rows_of, shared
from tests import plain_graphs as plain
from tests import strange

SIGNS = set(map(chr, range(33, 127)))
NAME_SIGNS = SIGNS - set(",[]{}")
TAG_SIGNS = set("abcdefghijklmnopqrstuvwxyzABCDEFGHIJKLMNOPQRSTUVWXYZ0123456789-#;/?:@&=+$_.~*'()")
LEAF = ("scalar", None, "!!str", "a")
BEGIN = ("sequence", None, "!!seq")
CLOSE = ("close",)


def is_name(thing):
    return type(thing) is str and thing != "" and set(thing) <= NAME_SIGNS


def is_tag(thing):
    if type(thing) is not str or thing[:1] != "!":
        return False
    name = thing[2:] if thing[:2] == "!!" else thing[1:]
    return name != "" and set(name) <= TAG_SIGNS


def is_row(row):
    if type(row) is not tuple or not row or type(row[0]) is not str:
        return False
    lengths = {"close": 1, "alias": 2, "sequence": 3, "mapping": 3, "scalar": 4}
    if lengths.get(row[0]) != len(row):
        return False
    if row[0] == "alias":
        return is_name(row[1])
    return len(row) == 1 or ((row[1] is None or is_name(row[1])) and is_tag(row[2]) and (len(row) == 3 or type(row[3]) is str))


def plain_outcome(rows):
    """The nodes that rows tell, or the error and what it tells."""
    nodes, path, begun = [], [], []
    for index, row in enumerate(rows):
        over = bool(nodes) and not path
        here = nodes[path[-1]] if path else ("", "", [])
        full = len(here[2]) >= 1000
        if not is_row(row) or over or (row[0] != "close" and full) or (row[0] in ("scalar", "sequence", "mapping") and len(nodes) == 200):
            return NoRows, index
        if row[0] == "close":
            if not path or (here[0] == "mapping" and len(here[2]) % 2):
                return NoRows, index
            path.pop()
            continue
        if row[0] == "alias":
            numbers = [number for name, number in begun if name == row[1]]
            if not numbers:
                return NoAlias, index
            here[2].append(numbers[-1])
            continue
        here[2].append(len(nodes))
        begun.append((row[1], len(nodes)))
        if row[0] != "scalar":
            path.append(len(nodes))
        nodes.append((row[0], row[2], row[3] if row[0] == "scalar" else []))
    if path or not nodes:
        return NoRows, len(rows)
    told = []
    for kind, tag, content in nodes:
        if kind == "sequence":
            content = tuple(content)
        elif kind == "mapping":
            content = tuple(zip(content[::2], content[1::2]))
        told.append((kind, tag, content))
    return tuple(told)


def outcome(rows):
    try:
        graph = graph_of(rows)
    except NoRows as error:
        return NoRows, error.index
    except NoAlias as error:
        return NoAlias, error.place
    assert graph.top == 0
    return graph.nodes


class There(unittest.TestCase):
    def test_by_hand(self):
        self.assertEqual(rows_of(Graph([("scalar", "!!str", "a")])), [LEAF])
        self.assertEqual(rows_of(Graph([("sequence", "!a", ()), ("mapping", "!b", ())])), [("sequence", None, "!a"), CLOSE])
        self.assertEqual(rows_of(Graph([("sequence", "!a", ()), ("mapping", "!b", ())], 1)), [("mapping", None, "!b"), CLOSE])
        graph = Graph([("scalar", "!!str", "a"), ("mapping", "!!map", ((2, 0), (0, 1))), ("sequence", "!!seq", (3, 0, 1)), ("scalar", "!!int", "1")], 1)
        self.assertEqual(rows_of(graph), [
            ("mapping", "a1", "!!map"), ("sequence", None, "!!seq"), ("scalar", None, "!!int", "1"), ("scalar", "a2", "!!str", "a"), ("alias", "a1"), CLOSE,
            ("alias", "a2"), ("alias", "a2"), ("alias", "a1"), CLOSE])

    def test_names_come_in_order(self):
        graph = Graph([("sequence", "!!seq", (3, 2, 1, 2, 1, 3))] + [("scalar", "!!str", text) for text in "abc"])
        self.assertEqual([row[1] for row in rows_of(graph)[1:-1]], ["a1", "a2", "a3", "a2", "a3", "a1"])
        wide = Graph([("sequence", "!!seq", tuple(range(1, 200)) * 2)] + [("scalar", "!!str", "a")] * 199)
        self.assertEqual([row[1] for row in rows_of(wide)[1:-1]], ["a" + str(number) for number in range(1, 200)] * 2)

    def test_long_ones(self):
        ring = Graph([("sequence", "!!seq", ((number + 1) % 200,)) for number in range(200)], 7)
        self.assertEqual(rows_of(ring), [("sequence", "a1", "!!seq")] + [BEGIN] * 199 + [("alias", "a1")] + [CLOSE] * 200)
        many = Graph([("sequence", "!!seq", (1,) * 999), ("scalar", "!!str", "a")])
        self.assertEqual(rows_of(many), [BEGIN, ("scalar", "a1", "!!str", "a")] + [("alias", "a1")] * 998 + [CLOSE])


class Back(unittest.TestCase):
    def test_there_and_back(self):
        chance = random.Random(43)
        for _ in range(3000):
            drawn = plain.draw(chance, 7, many=4, tags=2)
            for graph in [drawn] + [Graph(drawn.nodes, top) for top in range(len(drawn.nodes))]:
                rows = rows_of(graph)
                self.assertEqual(graph_of(rows), ordered(graph))
                self.assertEqual(graph_of(tuple(rows)), ordered(graph))
                self.assertEqual(len([row for row in rows if row[0] not in ("close", "alias")]), len(plain.order(graph)))
                self.assertEqual(len({row[1] for row in rows if row[0] == "alias"}), len(shared(graph)))
                self.assertEqual(rows_of(ordered(graph)), rows)
        for graph in plain.small_graphs(2):
            self.assertEqual(graph_of(rows_of(graph)), ordered(graph))

    def test_names_changed_one_to_one(self):
        chance = random.Random(42)
        fresh = ["a2", "a1", "!", "&x", "*", ":", "#", "-", "a:b", "\"", "'", "%", "~" * 300, "null", "a3"]
        for _ in range(1000):
            graph = plain.draw(chance, 7, many=4)
            rows = rows_of(graph)
            names = sorted({row[1] for row in rows if row[0] == "alias"})
            turned = dict(zip(names, chance.sample(fresh, len(names))))
            others = [row[:1] + (turned.get(row[1], row[1]),) + row[2:] if len(row) > 1 else row for row in rows]
            self.assertEqual(graph_of(others), ordered(graph))

    def test_the_newest_node_stands(self):
        rows = [BEGIN, ("scalar", "x", "!!str", "a"), ("alias", "x"), ("scalar", "x", "!!str", "b"), ("alias", "x"), ("sequence", "x", "!!seq"),
                ("alias", "x"), ("scalar", "x", "!!str", "c"), CLOSE, ("alias", "x"), CLOSE]
        self.assertEqual(graph_of(rows).nodes[0][2], (1, 1, 2, 2, 3, 4))
        self.assertEqual(graph_of(rows).nodes[3][2], (3, 4))
        key = [("mapping", "x", "!!map"), ("alias", "x"), ("mapping", "y", "!!map"), ("alias", "y"), ("alias", "x"), CLOSE, CLOSE]
        self.assertEqual(graph_of(key), Graph([("mapping", "!!map", ((0, 1),)), ("mapping", "!!map", ((1, 0),))]))

    def test_all_short_rows(self):
        kinds = [("scalar", "x", "!!str", "a"), LEAF, ("sequence", "x", "!!seq"), BEGIN, ("mapping", "y", "!!map"), CLOSE, ("alias", "x"), ("alias", "y"), None]
        for many in range(6):
            for rows in itertools.product(kinds, repeat=many):
                self.assertEqual(outcome(rows), plain_outcome(rows))

    def test_spoilt_rows(self):
        chance = random.Random(40)
        others = [LEAF, BEGIN, CLOSE, ("mapping", "a1", "!!map"), ("alias", "a1"), ("alias", "a2"), ("alias", "none"), ("alias", None), ("scalar", "a1", "!!str", "z"),
                  ("scalar", "", "!!str", "z"), None]
        for _ in range(4000):
            rows = rows_of(plain.draw(chance, 6, many=4))
            for _ in range(chance.randrange(1, 3)):
                place = chance.randrange(len(rows) + 1)
                way = chance.randrange(3)
                if way == 0:
                    rows.insert(place, chance.choice(others))
                elif way == 1:
                    del rows[place:place + 1]
                else:
                    rows[place:place + 1] = [chance.choice(others)]
            self.assertEqual(outcome(rows), plain_outcome(rows), rows)

    def test_rows_that_are_none(self):
        wrong = strange.ALL + [
            ["close"], ("close", None), ("Close",), ("over",), ("document", True), ("other", None, "!!seq"), ("seq", "x", "!!seq"), ("", None, "!!map"),
            ("scalar", None, "!!str", "a", 0, 1), ("scalar", "x", "!!str"), ("other", None, "!!str", "a"), ("over", "x"), ("alias",), ("alias", "x", "x"), ("scalar", None, "!!str"),
            ("scalar", None, "!!str", "a", "plain"), ("scalar", None, "!!str", None), ("scalar", None, "!!str", b"a"), ("scalar", None, "!!str", ["a"]),
            ["scalar", None, "!!str", "a"], ("sequence", None), ("sequence", None, "!!seq", ()), ["sequence", None, "!!seq"], ("mapping", None),
            ("mapping", None, "!!map", ()), (b"close",), (["close"],), (None, None, "!!seq"), ({}, None, "!!seq")]
        names = [thing for thing in strange.ALL if not is_name(thing)] + ["a b", " a", "a\n", "a,", "[", "]", "{", "}", "a\t", "\u20ac", "a\x7f", "\x00"]
        tags = [thing for thing in strange.ALL if not is_tag(thing)] + ["!", "!!", "a", "!a b", "!a!", "!!a,", "!<a>", "!a\n"]
        for name in names:
            wrong.append(("alias", name))
            if name is not None:
                wrong.extend([("scalar", name, "!!str", "a"), ("sequence", name, "!!seq"), ("mapping", name, "!!map")])
        for tag in tags:
            wrong.extend([("scalar", None, tag, "a"), ("sequence", "x", tag), ("mapping", "x", tag)])
        pair = [("mapping", None, "!!map"), LEAF, LEAF]
        for row in wrong:
            with self.subTest(row=row):
                self.assertEqual(outcome([row]), (NoRows, 0))
                self.assertEqual(outcome([BEGIN, LEAF, row, LEAF, CLOSE]), (NoRows, 2))
                self.assertEqual(outcome((BEGIN, row, ("alias", "none"))), (NoRows, 1))
                self.assertEqual(outcome(pair + [row]), (NoRows, 3))
                self.assertEqual(outcome([LEAF, row]), (NoRows, 1))

    def test_all_names_and_tags(self):
        for sign in map(chr, range(300)):
            row = ("scalar", sign, "!!str", sign)
            self.assertEqual(outcome([row]), (("scalar", "!!str", sign),) if sign in NAME_SIGNS else (NoRows, 0))
            self.assertEqual(outcome([BEGIN, ("scalar", "a" + sign, "!!str", ""), ("alias", "a" + sign), CLOSE]) == (NoRows, 1), sign not in NAME_SIGNS)
            for tag in ("!" + sign, "!!" + sign, "!a" + sign):
                self.assertEqual(outcome([("scalar", None, tag, "")]) == (NoRows, 0), sign not in TAG_SIGNS)

    def test_what_is_no_list(self):
        for thing in strange.NO_LISTS:
            with self.subTest(thing=thing):
                self.assertEqual(outcome(thing), (NoRows, -1))
        self.assertEqual(outcome([]), (NoRows, 0))
        self.assertEqual(outcome(()), (NoRows, 0))

    def test_what_cannot_stand_there(self):
        pair = [("mapping", "x", "!!map"), LEAF]
        for row in (LEAF, BEGIN, CLOSE, ("alias", "x"), ("alias", "y"), ("mapping", None, "!!map")):
            self.assertEqual(outcome([LEAF, row]), (NoRows, 1))
            self.assertEqual(outcome([BEGIN, CLOSE, row]), (NoRows, 2))
            self.assertEqual(outcome(pair + [LEAF, CLOSE, row]), (NoRows, 4))
        self.assertEqual(outcome([CLOSE]), (NoRows, 0))
        self.assertEqual(outcome(pair + [CLOSE]), (NoRows, 2))
        self.assertEqual(outcome(pair + [LEAF, LEAF, CLOSE, LEAF]), (NoRows, 4))
        self.assertEqual(outcome(pair + [("alias", "x"), ("alias", "x"), CLOSE]), (NoRows, 4))
        self.assertEqual(outcome(pair + [BEGIN, CLOSE, CLOSE])[0], ("mapping", "!!map", ((1, 2),)))

    def test_aliases_without_a_node(self):
        self.assertEqual(outcome([("alias", "x")]), (NoAlias, 0))
        self.assertEqual(outcome([BEGIN, ("alias", "x"), ("scalar", "x", "!!str", "a"), CLOSE]), (NoAlias, 1))
        self.assertEqual(outcome([BEGIN, ("scalar", "x", "!!str", "a"), ("alias", "X"), None]), (NoAlias, 2))
        self.assertEqual(outcome([BEGIN, None, ("alias", "x")]), (NoRows, 1))
        # None is the name of no node, though many rows have it.
        self.assertEqual(outcome([BEGIN, LEAF, ("alias", "None")]), (NoAlias, 2))

    def test_rows_that_end_too_early(self):
        rows = [("mapping", "x", "!!map"), LEAF, BEGIN, ("alias", "x"), CLOSE, LEAF, LEAF, CLOSE]
        for end in range(len(rows)):
            self.assertEqual(outcome(rows[:end]), (NoRows, end))
        self.assertEqual(len(outcome(rows)), 5)
        self.assertEqual(outcome([BEGIN] * 200), (NoRows, 200))

    def test_bounds(self):
        self.assertEqual(len(outcome([BEGIN] + [LEAF] * 199 + [CLOSE])), 200)
        self.assertEqual(outcome([BEGIN] + [LEAF] * 200 + [CLOSE]), (NoRows, 200))
        self.assertEqual(outcome([BEGIN] * 201), (NoRows, 200))
        self.assertEqual(len(outcome([BEGIN] * 200 + [CLOSE] * 200)), 200)
        self.assertEqual(len(outcome([BEGIN] + [("scalar", "x", "!!str", "a")] * 199 + [("alias", "x")] * 801 + [CLOSE])[0][2]), 1000)
        head = [("sequence", "x", "!!seq")]
        self.assertEqual(len(outcome(head + [("alias", "x")] * 1000 + [CLOSE])[0][2]), 1000)
        for row in (("alias", "x"), ("alias", "y"), LEAF, BEGIN, None):
            self.assertEqual(outcome(head + [("alias", "x")] * 1000 + [row, CLOSE]), (NoRows, 1001))
        head = [("mapping", "x", "!!map")]
        self.assertEqual(len(outcome(head + [("alias", "x")] * 1000 + [CLOSE])[0][2]), 500)
        for row in (("alias", "x"), LEAF, BEGIN):
            self.assertEqual(outcome(head + [("alias", "x")] * 1000 + [row, ("alias", "x"), CLOSE]), (NoRows, 1001))
        # The number of nodes and that of numbers are asked ahead of the name of an alias.
        self.assertEqual(outcome([BEGIN] + [LEAF] * 199 + [("alias", "y")]), (NoAlias, 200))

    def test_nothing_is_changed(self):
        rows = [("mapping", "x", "!!map"), ("scalar", "y", "!!str", "a"), ("alias", "x"), CLOSE]
        before = list(rows)
        first, second = graph_of(rows), graph_of(rows=rows)
        self.assertEqual(rows, before)
        self.assertEqual(first, second)
        self.assertIsNot(first, second)
        self.assertIs(type(first), Graph)
        self.assertEqual(rows_of(graph=first), rows_of(first))


if __name__ == "__main__":
    unittest.main()
