"""The graphs of texts."""

import random
import time
import unittest

from anchorpages.composing import composed
from anchorpages.core import resolved
from anchorpages.errors import BadTag, LikeKeys, NoAlias, NoSchema, Refused
from anchorpages.graphs import Graph, graph_of, rows_of
from anchorpages.likeness import like_keys
from anchorpages.reader import read
from tests import plain_graphs as plain
from tests import strange

SCHEMAS = ("core", "text")


def outcome(text, schema="core"):
    """The graphs of a text, or the error and its place."""
    try:
        return composed(read(text), schema)
    except (NoAlias, BadTag, LikeKeys) as error:
        return type(error), error.place


def documents(events):
    found = []
    for event in events:
        if event[0] == "document":
            found.append([])
        elif event[0] != "over":
            found[-1].append(event)
    return found


def start(event):
    return event[{"alias": 2, "scalar": 5, "sequence": 4, "mapping": 4}[event[0]]]


def key_starts(events):
    """For each node that begins in these events, the places of its keys, in the order of the nodes."""
    found = []

    def node(index):
        here = []
        kind = events[index][0]
        if kind != "alias":
            found.append(here)
        index += 1
        if kind in ("sequence", "mapping"):
            many = 0
            while events[index][0] != "close":
                if many % 2 == 0:
                    here.append(start(events[index]))
                index = node(index)
                many += 1
            index += 1
        return index

    assert node(0) == len(events)
    return found


def plain_outcome(text, schema):
    """The same as outcome, by the words of the document."""
    graphs = []
    for events in documents(read(text)):
        rows = []
        for event in events:
            if event[0] == "close":
                rows.append(("close",))
            elif event[0] == "alias":
                if event[1] not in [row[1] for row in rows if row[0] not in ("alias", "close")]:
                    return NoAlias, start(event)
                rows.append(("alias", event[1]))
            else:
                try:
                    told = resolved(event[0], event[2], event[3], event[4] if event[0] == "scalar" else None, schema)
                except BadTag:
                    return BadTag, start(event)
                rows.append((event[0], event[1]) + (told if event[0] == "scalar" else told[:1]))
        graph = graph_of(rows)
        keys = key_starts(events)
        like = [keys[number][index] for number, index in plain.like(graph)]
        if like:
            return LikeKeys, min(like)
        graphs.append(graph)
    return graphs


WORDS = ["a", "a", "b", "1", "0x1", "1.0", "1e0", "01", "'1'", "\"a\"", "~", "null", "true", "True", ""]
TAGS = ["!!str ", "!!int ", "!!float ", "!!null ", "!a ", "! ", "!!seq ", "!!map ", "!!other "]


def flow_text(chance, deep):
    way = chance.random()
    if way < 0.12:
        return "*" + chance.choice("xy") + " "
    anchor = "&" + chance.choice("xy") + " " if chance.random() < 0.3 else ""
    tag = chance.choice(TAGS) if chance.random() < 0.1 else ""
    if way < 0.55 or deep == 0:
        return anchor + tag + chance.choice(WORDS)
    many = chance.randrange(4)
    if way < 0.75:
        return anchor + tag + "[" + ", ".join([flow_text(chance, deep - 1) for _ in range(many)]) + "]"
    return anchor + tag + "{" + ", ".join([flow_text(chance, deep - 1) + " : " + flow_text(chance, deep - 1) for _ in range(many)]) + "}"


def block_text(chance, deep, column):
    """A node behind a sign of its line, with its line feed."""
    way = chance.random()
    if way < 0.4 or deep == 0:
        return " " + flow_text(chance, 1) + "\n"
    head = ("" if chance.random() < 0.7 else " &" + chance.choice("xy")) + "\n"
    lines = ""
    for _ in range(chance.randrange(1, 4)):
        if way < 0.6:
            lines += " " * column + "-" + block_text(chance, deep - 1, column + 2)
        elif way < 0.9:
            lines += " " * column + flow_text(chance, 1) + " :" + block_text(chance, deep - 1, column + 2)
        else:
            lines += " " * column + "?" + block_text(chance, deep - 1, column + 2) + " " * column + ":" + block_text(chance, deep - 1, column + 2)
    return head + lines


def drawn_texts(seed, many):
    chance = random.Random(seed)
    while many:
        text = ""
        for _ in range(chance.randrange(1, 4)):
            text += "---" + (block_text(chance, 3, 0) if chance.random() < 0.6 else " " + flow_text(chance, 3) + "\n")
        try:
            read(text)
        except Refused:
            continue
        many -= 1
        yield text


class Documents(unittest.TestCase):
    def test_by_hand(self):
        self.assertEqual(composed(read(""), "core"), [])
        self.assertEqual(composed([], "text"), [])
        self.assertEqual(composed((), "core"), [])
        text = "a: &x b\nc: [*x, 0x10, ~]\n"
        leaves = [("scalar", "!!str", "a"), ("scalar", "!!str", "b"), ("scalar", "!!str", "c")]
        self.assertEqual(composed(read(text), "core"), [Graph(
            [("mapping", "!!map", ((1, 2), (3, 4)))] + leaves + [("sequence", "!!seq", (2, 5, 6)), ("scalar", "!!int", "16"), ("scalar", "!!null", "null")])])
        self.assertEqual(composed(read(text), "text"), [Graph(
            [("mapping", "!!map", ((1, 2), (3, 4)))] + leaves + [("sequence", "!!seq", (2, 5, 6)), ("scalar", "!!str", "0x10"), ("scalar", "!!str", "~")])])
        self.assertEqual(composed(tuple(read("a")), "core"), [Graph([leaves[0]])])

    def test_several_documents(self):
        told = composed(read("--- a\n---\n- b\n...\n&x c\n---\n"), "core")
        self.assertEqual([graph.nodes for graph in told], [
            (("scalar", "!!str", "a"),), (("sequence", "!!seq", (1,)), ("scalar", "!!str", "b")), (("scalar", "!!str", "c"),), (("scalar", "!!null", "null"),)])
        self.assertTrue(all(type(graph) is Graph and graph.top == 0 for graph in told))
        self.assertEqual(len(composed(read("---\n" * 750), "core")), 750)

    def test_empty_nodes_are_scalars(self):
        self.assertEqual(composed(read("---\n"), "core"), [Graph([("scalar", "!!null", "null")])])
        self.assertEqual(composed(read("---\n"), "text"), [Graph([("scalar", "!!str", "")])])
        self.assertEqual(composed(read("- !!str\n- !\n- ''\n- &x\n- *x"), "core")[0].nodes, (
            ("sequence", "!!seq", (1, 2, 3, 4, 4)), ("scalar", "!!str", ""), ("scalar", "!!str", ""), ("scalar", "!!str", ""), ("scalar", "!!null", "null")))
        self.assertEqual(outcome("[!!int ]"), (BadTag, 1))
        self.assertEqual(composed(read("{a}"), "core"), composed(read("a:"), "core"))
        self.assertEqual(composed(read("[: ]"), "core")[0].nodes[1:], (("mapping", "!!map", ((2, 3),)), ("scalar", "!!null", "null"), ("scalar", "!!null", "null")))

    def test_tags(self):
        self.assertEqual(composed(read("!a [!!seq [], !b {}, !!map {}, ! [], ! {}, !!x {}]"), "core")[0].nodes, (
            ("sequence", "!a", (1, 2, 3, 4, 5, 6)), ("sequence", "!!seq", ()), ("mapping", "!b", ()), ("mapping", "!!map", ()), ("sequence", "!!seq", ()),
            ("mapping", "!!map", ()), ("mapping", "!!x", ())))
        self.assertEqual([node[1:] for node in composed(read("[! 1, !!str 1, !!int '012', !!float 1, !a 1, '1', 01, .5, FALSE]"), "core")[0].nodes[1:]], [
            ("!!str", "1"), ("!!str", "1"), ("!!int", "12"), ("!!float", "1e0"), ("!a", "1"), ("!!str", "1"), ("!!int", "1"), ("!!float", "5e-1"),
            ("!!bool", "false")])
        self.assertEqual([node[1:] for node in composed(read("[! 1, !!str 1, !!int 'a', !!float 1, !a 1, '1', 01, .5, FALSE]"), "text")[0].nodes[1:]], [
            ("!!str", "1"), ("!!str", "1"), ("!!int", "a"), ("!!float", "1"), ("!a", "1"), ("!!str", "1"), ("!!str", "01"), ("!!str", ".5"),
            ("!!str", "FALSE")])

    def test_bad_tags(self):
        self.assertEqual(outcome("- a\n- !!int b"), (BadTag, 6))
        self.assertEqual(outcome("- a\n- &x !!seq b"), (BadTag, 6))
        self.assertEqual(outcome("- a\n- &x\n  !!int [b]"), (BadTag, 6))
        self.assertEqual(outcome("- a\n- !!map\n  - b"), (BadTag, 6))
        self.assertEqual(outcome("!!seq\na: b"), (BadTag, 0))
        self.assertEqual(outcome("--- !!str {}"), (BadTag, 4))
        for tag in ("!!null", "!!bool", "!!int", "!!float"):
            self.assertEqual(outcome(tag + " []"), (BadTag, 0))
            self.assertEqual(composed(read(tag + " []"), "text"), [Graph([("sequence", tag, ())])])
        for text in ("!!str []", "!!map []", "!!seq {}", "!!seq a", "!!map ''"):
            for schema in SCHEMAS:
                self.assertEqual(outcome(text, schema), (BadTag, 0))
        self.assertEqual(outcome("[!!int 1.0]"), (BadTag, 1))
        self.assertEqual(outcome("!!float\n\n0x1"), (BadTag, 0))

    def test_aliases(self):
        self.assertEqual(outcome("*x"), (NoAlias, 0))
        self.assertEqual(outcome("- a\n- *x\n- &x b"), (NoAlias, 6))
        self.assertEqual(outcome("--- &x a\n--- *x\n"), (NoAlias, 13))
        self.assertEqual(outcome("&x a\n...\n[b, *x ]"), (NoAlias, 13))
        self.assertEqual(composed(read("[&x a, *x , &x b, *x , &y c, *x , *y ]"), "core")[0].nodes[0][2], (1, 1, 2, 2, 3, 2, 3))
        # The newest node stands, also one that is not closed yet.
        self.assertEqual(composed(read("[&x a, &x [*x , &x b, *x ], *x ]"), "core")[0].nodes, (
            ("sequence", "!!seq", (1, 2, 3)), ("scalar", "!!str", "a"), ("sequence", "!!seq", (2, 3, 3)), ("scalar", "!!str", "b")))
        self.assertEqual(composed(read("&x\n- *x\n- &y\n  - *x\n  - *y"), "core")[0].nodes, (("sequence", "!!seq", (0, 1)), ("sequence", "!!seq", (0, 1))))
        self.assertEqual(composed(read("&x {*x : *x }"), "core"), [Graph([("mapping", "!!map", ((0, 0),))])])
        self.assertEqual(composed(read("&x\na: *x\n? &y {b: *y }\n: *x"), "core")[0].nodes[0], ("mapping", "!!map", ((1, 0), (2, 0))))

    def test_like_keys(self):
        for schema in SCHEMAS:
            self.assertEqual(outcome("a: 1\nb: 2\na: 3", schema), (LikeKeys, 10))
            self.assertEqual(outcome("a: 1\n'a': 2", schema), (LikeKeys, 5))
            self.assertEqual(outcome("{a: 1, \"a\": 2}", schema), (LikeKeys, 7))
            self.assertEqual(outcome("{&x a: 1, *x : 2}", schema), (LikeKeys, 10))
            self.assertEqual(outcome("{a: 1, &y !!str a: 2}", schema), (LikeKeys, 7))
            self.assertEqual(outcome("? [a, b]\n: 1\n? - a\n  - b\n: 2", schema), (LikeKeys, 15))
            self.assertEqual(outcome("{{a: 1, b: 2}: x, {b: 2, a: 1}: y}", schema), (LikeKeys, 18))
            self.assertEqual(outcome("- &x [*x ]\n- &y [*y ]\n- {*x : a, *y : b}", schema), (LikeKeys, 33))
            self.assertEqual(outcome("? &x [*x ]\n: a\n? &y [[*y ]]\n: b", schema), (LikeKeys, 17))
            self.assertEqual(outcome(": a\n: b", schema), (LikeKeys, 4))
            self.assertEqual(outcome("?\n?\n", schema), (LikeKeys, 3))
            self.assertEqual(outcome("{a: x, !a a: y, !!a a: z}", schema), plain_outcome("{a: x, !a a: y, !!a a: z}", schema))
            self.assertIsInstance(outcome("{a: x, !a a: y, !!a a: z, [a]: u, {a: a}: v}", schema), list)
        # The same number in other words; not if it is of another tag.
        self.assertEqual(outcome("16: a\n0x10: b"), (LikeKeys, 6))
        self.assertEqual(outcome("1.0: a\n1e0: b"), (LikeKeys, 7))
        self.assertEqual(outcome("~: a\n: b"), (LikeKeys, 5))
        self.assertEqual(outcome("{true: a, !!bool 'TRUE': b}"), (LikeKeys, 10))
        self.assertIsInstance(outcome("1: a\n1.0: b\n'1': c"), list)
        for text in ("16: a\n0x10: b", "1.0: a\n1e0: b", "~: a\n: b"):
            self.assertIsInstance(outcome(text, "text"), list)

    def test_the_least_place_of_like_keys(self):
        # The outer mapping comes first in the graph, its second key last in the text.
        self.assertEqual(outcome("{a: {b: 1, b: 2}, a: 3}"), (LikeKeys, 11))
        self.assertEqual(outcome("{a: 1, a: {b: 1, b: 2}}"), (LikeKeys, 7))
        self.assertEqual(outcome("a: 1\na: 2\na: 3"), (LikeKeys, 5))
        # A key that begins a block mapping of its own: both begin at one place.
        self.assertEqual(outcome("? a: 1\n: x\n? a: 1\n: y"), (LikeKeys, 13))

    def test_which_error_comes_first(self):
        self.assertEqual(outcome("[*x , !!int a]"), (NoAlias, 1))
        self.assertEqual(outcome("[!!int a, *x ]"), (BadTag, 1))
        self.assertEqual(outcome("{a: 1, a: *x }"), (NoAlias, 10))
        self.assertEqual(outcome("{a: 1, a: !!int b}"), (BadTag, 10))
        self.assertEqual(outcome("--- {a: 1, a: 2}\n--- *x\n"), (LikeKeys, 11))
        self.assertEqual(outcome("--- {a: 1, b: 2}\n--- *x\n--- !!int a"), (NoAlias, 21))
        self.assertEqual(outcome("--- {a: 1, b: 2}\n--- !!int x\n--- *y"), (BadTag, 21))
        self.assertEqual(outcome("!!str [!!int a]"), (BadTag, 0))

    def test_drawn_texts(self):
        kinds = {}
        for text in drawn_texts(31, 3000):
            for schema in SCHEMAS:
                told = outcome(text, schema)
                self.assertEqual(told, plain_outcome(text, schema), text)
                kind = told[0] if isinstance(told, tuple) else len(told)
                kinds[kind] = kinds.get(kind, 0) + 1
                if isinstance(told, list):
                    for graph, events in zip(told, documents(read(text))):
                        self.assertEqual(like_keys(graph), [])
                        self.assertEqual(len(graph.nodes), len([event for event in events if event[0] not in ("alias", "close")]))
                        self.assertEqual(graph_of(rows_of(graph)), graph)
        for kind in (NoAlias, BadTag, LikeKeys, 1, 2, 3):
            self.assertGreater(kinds[kind], 50)


class Bounds(unittest.TestCase):
    def test_one_node_in_many_places(self):
        text = "[&a a," + "*a," * 997 + "]"
        self.assertLessEqual(len(text), 3000)
        self.assertEqual(composed(read(text), "core"), [Graph([("sequence", "!!seq", (1,) * 998), ("scalar", "!!str", "a")])])
        text = "&a [" + "*a," * 998 + "]"
        self.assertEqual(composed(read(text), "core"), [Graph([("sequence", "!!seq", (0,) * 998)])])

    def test_many_nodes_in_a_short_time(self):
        started = time.perf_counter()
        graph = composed(read("- a\n" * 199), "core")[0]
        self.assertEqual(graph.nodes, (("sequence", "!!seq", tuple(range(1, 200))),) + (("scalar", "!!str", "a"),) * 199)
        graph = composed(read("".join("k{}: {}\n".format(number, number) for number in range(99))), "core")[0]
        self.assertEqual(len(graph.nodes), 199)
        self.assertEqual(outcome("".join("k{}: {}\n".format(number, number) for number in range(98)) + "k7: a\n")[0], LikeKeys)
        deep = "".join("&a{} [".format(number) for number in range(30)) + "*a0 " + "]" * 30
        self.assertEqual(composed(read(deep), "text")[0], Graph([("sequence", "!!seq", ((number + 1) % 30,)) for number in range(30)]))
        words = composed(read("[" + "9" * 1400 + ", 1e" + "9" * 1400 + "]"), "core")[0]
        self.assertEqual([node[1:] for node in words.nodes[1:]], [("!!int", "9" * 1400), ("!!float", "1e" + "9" * 1400)])
        self.assertLess(time.perf_counter() - started, 1)


class Arguments(unittest.TestCase):
    def test_schemas(self):
        for schema in strange.ALL + ["Core", "texts", "core ", "", ("core",), ["text"], {"core": 1}]:
            if schema == "core":
                continue
            for events in ([], read("*x"), read("!!int a"), read("{a: 1, a: 2}")):
                with self.subTest(schema=schema):
                    with self.assertRaises(NoSchema) as caught:
                        composed(events, schema)
                    self.assertIs(caught.exception.schema, schema)
                    with self.assertRaises(NoSchema):
                        composed(schema=schema, events=events)

    def test_nothing_is_changed(self):
        events = read("a: &x [b, *x ]\n")
        before = list(events)
        first, second = composed(events, "core"), composed(schema="core", events=events)
        self.assertEqual(events, before)
        self.assertEqual(first, second)
        self.assertIs(type(first), list)
        self.assertIsNot(first, second)


if __name__ == "__main__":
    unittest.main()
