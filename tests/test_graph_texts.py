"""Bare events and texts of graphs."""

import itertools
import random
import time
import unittest

from anchorpages.composing import composed
from anchorpages.core import tag_fits, tag_needed
from anchorpages.errors import BadTag, LikeKeys, NoForm, NoGraph, NoSchema
from anchorpages.graphs import Graph, graph_of, ordered, rows_of
from anchorpages.likeness import like_keys
from anchorpages.reader import read
from anchorpages.rows import bare
from anchorpages.scalars import fits
from anchorpages.writers import events_of, events_text, text_of
from tests import plain_graphs
from tests import strange
from tests.plain_writing import VALUES

WAYS = list(itertools.product(("core", "text"), ("block", "flow")))
CONTENTS = {"!!int": ["0", "1", "-12"], "!!float": ["0e0", "15e-1", ".nan", "-.inf"], "!!null": ["null"], "!!bool": ["true", "false"]}


def node_events(rows, schema, form, place):
    """The bare events of a node that begins with the first one of these rows, which are taken away;
    place is "key" for the key of a block mapping."""
    row = rows.pop(0)
    if row[0] == "alias":
        return [row]
    if row[0] == "scalar":
        _, name, tag, content = row
        if form == "flow":
            styles, contexts = ["plain", "single", "double"], ["flow"]
        elif place == "key":
            styles, contexts = ["plain", "single", "double"], ["key", "block"]
        else:
            styles, contexts = ["literal"] * ("\n" in content) + ["plain", "single", "double"], ["block"]
        styles = [style for style in styles if all(fits(content, style, context) for context in contexts)]
        tags = [tag_needed("scalar", tag, content, style, schema) for style in styles]
        at = tags.index(None) if None in tags else 0
        return [("scalar", name, tags[at], styles[at], content)]
    kind, name, tag = row
    events = []
    many = 0
    while rows[0] != ("close",):
        events += node_events(rows, schema, form, "key" if kind == "mapping" and many % 2 == 0 else "")
        many += 1
    return [(kind, name, tag_needed(kind, tag, "", None, schema), form if many else "flow")] + events + [rows.pop(0)]


def plain_events(graphs, schema, form):
    events = []
    for index, graph in enumerate(graphs):
        events += [("document", index > 0)] + node_events(rows_of(graph), schema, form, "") + [("over", False)]
    return events


def plain_error(graph, schema):
    """What is raised for a graph, None if nothing is."""
    graph = ordered(graph)
    for number, (kind, tag, content) in enumerate(graph.nodes):
        if not tag_fits(kind, tag, content, schema):
            return BadTag, number
        if kind == "scalar" and not all(sign in "\t\n" or " " <= sign <= "~" for sign in content):
            return BadTag, number
    like = like_keys(graph)
    return (LikeKeys, like[0]) if like else None


def scalar(content, tag="!!str"):
    return ("scalar", tag, content)


def drawn(chance):
    """A graph with many kinds of scalars, with shared nodes and rings."""
    many = chance.choice([1, 2, 3, 5, 8, 12])
    nodes = []
    for at in range(many):
        far = chance.choice([many, min(many, at + 3)])
        way = chance.random()
        if way < 0.45:
            tag = chance.choice(["!!str"] * 5 + ["!!int", "!!float", "!!null", "!!bool", "!x", "!!other"])
            texts = CONTENTS[tag] if tag in CONTENTS and chance.random() < 0.97 else VALUES + ["1", "true", "null", "~", "0x1", ".5", "1e3"]
            nodes.append(scalar(chance.choice(texts), tag))
        elif way < 0.7:
            nodes.append(("sequence", chance.choice(["!!seq", "!!seq", "!y"]), tuple([chance.randrange(far) for _ in range(chance.randrange(4))])))
        else:
            nodes.append(("mapping", chance.choice(["!!map", "!!map", "!y"]), tuple([(chance.randrange(far), chance.randrange(far)) for _ in range(chance.randrange(3))])))
    return Graph(nodes, chance.randrange(many))


class Graphs(unittest.TestCase):
    def check(self, graphs, text, schema="core", form="block"):
        """The text, and that the graphs are composed of it."""
        self.assertEqual(text_of(graphs, schema, form), text)
        self.assertEqual(events_of(graphs, schema, form), plain_events(graphs, schema, form))
        self.check_read(graphs, schema, form)

    def check_read(self, graphs, schema, form):
        text = text_of(graphs, schema, form)
        events = events_of(graphs, schema, form)
        self.assertEqual(events_text(events), text)
        self.assertEqual(bare(read(text)), events)
        self.assertEqual(composed(read(text), schema), [ordered(graph) for graph in graphs])

    def check_scalar(self, node, block, flow, schema="core"):
        """The text of a scalar as a node in lines and in brackets."""
        self.check([Graph([("sequence", "!!seq", (1,)), node])], "- " + block + "\n", schema)
        self.check([Graph([("sequence", "!!seq", (1,)), node])], "[" + flow + "]\n", schema, "flow")

    def check_key(self, node, text, schema="core"):
        self.check([Graph([("mapping", "!!map", ((1, 1),)), node])], text, schema)

    def test_no_graphs(self):
        for schema, form in WAYS:
            self.assertEqual(events_of([], schema, form), [])
            self.assertEqual(text_of((), schema, form), "")

    def test_strings(self):
        self.check_scalar(scalar("a b"), "a b", "a b")
        self.check_scalar(scalar(""), "''", "''")
        self.check_scalar(scalar("12"), "'12'", "'12'")
        self.check_scalar(scalar("12"), "12", "12", "text")
        self.check_scalar(scalar("null"), "'null'", "'null'")
        self.check_scalar(scalar("a,b"), "a,b", "'a,b'")
        self.check_scalar(scalar("a: b"), "'a: b'", "'a: b'")
        self.check_scalar(scalar("\t"), "'\t'", "'\t'")
        self.check_scalar(scalar(" \n"), "|2\n   ", "\" \\n\"")
        self.check_scalar(scalar("a\nb"), "|-\n  a\n  b", "a\n\n b")
        self.check_scalar(scalar("a\n"), "|\n  a", "'a\n\n '")
        self.check_scalar(scalar("\n"), "|+\n", "'\n\n '")
        self.check_scalar(scalar("a \nb"), "|-\n  a \n  b", "\"a \\nb\"")

    def test_other_tags(self):
        self.check_scalar(scalar("12", "!!int"), "12", "12")
        self.check_scalar(scalar("12", "!!int"), "!!int 12", "!!int 12", "text")
        self.check_scalar(scalar("null", "!!null"), "null", "null")
        self.check_scalar(scalar("true", "!!bool"), "true", "true")
        self.check_scalar(scalar("15e-1", "!!float"), "15e-1", "15e-1")
        self.check_scalar(scalar(".nan", "!!float"), ".nan", ".nan")
        self.check_scalar(scalar("12", "!x"), "!x 12", "!x 12")
        self.check_scalar(scalar("", "!x"), "!x ''", "!x ''")
        self.check_scalar(scalar("a\nb", "!!x"), "!!x |-\n  a\n  b", "!!x a\n\n b")
        self.check_scalar(scalar("- a", "!x"), "!x '- a'", "!x '- a'")

    def test_keys(self):
        self.check_key(scalar("a"), "&a1 a: *a1\n")
        self.check_key(scalar("12"), "&a1 '12': *a1\n")
        self.check_key(scalar("a\nb"), "&a1 \"a\\nb\": *a1\n")
        self.check_key(scalar("a\nb", "!x"), "&a1 !x \"a\\nb\": *a1\n")
        self.check_key(scalar("a:"), "&a1 'a:': *a1\n")
        self.check_key(scalar("-"), "&a1 '-': *a1\n")
        self.check_key(scalar("12", "!!int"), "&a1 12: *a1\n")
        self.check_key(scalar("12", "!!int"), "&a1 !!int 12: *a1\n", "text")
        self.check([Graph([("mapping", "!!map", ((1, 2),)), scalar("--- a"), scalar("...")])], "? --- a\n: ...\n")

    def test_collections(self):
        self.check([Graph([("sequence", "!!seq", ())])], "[]\n")
        self.check([Graph([("mapping", "!!map", ())])], "{}\n")
        self.check([Graph([("sequence", "!x", ())])], "!x []\n")
        self.check([Graph([("mapping", "!!x", ((1, 1),)), ("sequence", "!y", ())])], "!!x\n&a1 !y []: *a1\n")
        graph = Graph([("mapping", "!!map", ((1, 2), (2, 1))), ("sequence", "!!seq", (3, 3)), ("mapping", "!y", ((3, 4),)), scalar("a"), ("mapping", "!!map", ())])
        self.check([graph], "? &a1\n  - &a2 a\n  - *a2\n: &a3 !y\n  *a2 : {}\n*a3 : *a1\n")
        self.check([graph], "{&a1 [&a2 a, *a2]: &a3 !y {*a2 : {}}, *a3 : *a1}\n", form="flow")

    def test_rings(self):
        ring = Graph([("sequence", "!!seq", (0, 0))])
        self.check([ring], "&a1\n- *a1\n- *a1\n")
        self.check([ring], "&a1 [*a1, *a1]\n", "text", "flow")
        self.check([Graph([("mapping", "!x", ((0, 0),))])], "&a1 !x\n*a1 : *a1\n")
        self.check([Graph([("mapping", "!!map", ((0, 1),)), ("sequence", "!!seq", (0, 1))])], "&a1\n*a1 : &a2\n  - *a1\n  - *a2\n")

    def test_order(self):
        """Nodes are told in the order in which they are met; those that are not met are left out."""
        graph = Graph([scalar("a"), ("sequence", "!!seq", (3, 0)), scalar("no", "!!int"), scalar("b")], 1)
        self.check([graph], "- b\n- a\n")
        self.check([graph], "[b, a]\n", "text", "flow")

    def test_first_place(self):
        """A scalar in several places has the style of the first one."""
        node = scalar("a\nb")
        self.check([Graph([("sequence", "!!seq", (1, 2)), node, ("mapping", "!!map", ((1, 1),))])], "- &a1 |-\n  a\n  b\n- *a1 : *a1\n")
        self.check([Graph([("sequence", "!!seq", (2, 1)), node, ("mapping", "!!map", ((1, 1),))])], "- &a1 \"a\\nb\": *a1\n- *a1\n")

    def test_several_graphs(self):
        one, two, three = Graph([scalar("a")]), Graph([("sequence", "!!seq", (0,))]), Graph([("mapping", "!!map", ())])
        self.check([one, two, three, one], "a\n--- &a1\n- *a1\n--- {}\n--- a\n")
        self.check((two, two), "&a1 [*a1]\n--- &a1 [*a1]\n", form="flow")
        self.check([Graph([scalar("--- a")]), Graph([scalar("...")])], " --- a\n--- ...\n")

    def test_top_scalars(self):
        """A scalar by itself is in brackets, too, if this is the form."""
        self.check([Graph([scalar("a,b")])], "a,b\n")
        self.check([Graph([scalar("a,b")])], "'a,b'\n", form="flow")
        self.check([Graph([scalar("a\nb")])], "|-\n a\n b\n")
        self.check([Graph([scalar("a\nb")])], "a\n\n b\n", form="flow")

    def test_all_values(self):
        for value in VALUES + ["12", "true", "~", "1e3"]:
            for tag in ("!!str", "!x"):
                for nodes in ([scalar(value, tag)], [("sequence", "!!seq", (1, 1)), scalar(value, tag)], [("mapping", "!!map", ((1, 2),)), scalar(value, tag), scalar(value, tag)]):
                    for schema, form in WAYS:
                        graph = Graph(nodes)
                        self.assertEqual(events_of([graph], schema, form), plain_events([graph], schema, form))
                        self.check_read([graph], schema, form)

    def test_small_graphs(self):
        for graph in plain_graphs.small_graphs(2):
            for schema, form in WAYS:
                wrong = plain_error(graph, schema)
                if wrong is None:
                    self.assertEqual(events_of([graph], schema, form), plain_events([graph], schema, form))
                    self.check_read([graph], schema, form)
                else:
                    self.check_error(wrong, [graph], schema, form)

    def test_graphs_by_chance(self):
        chance = random.Random(40)
        for _ in range(1200):
            graphs = [drawn(chance) for _ in range(chance.randrange(1, 4))]
            kept = [(graph.nodes, graph.top) for graph in graphs]
            for schema, form in WAYS:
                wrong = [error for error in [plain_error(graph, schema) for graph in graphs] if error is not None]
                if wrong:
                    self.check_error(wrong[0], graphs, schema, form)
                else:
                    self.assertEqual(events_of(graphs, schema, form), plain_events(graphs, schema, form))
                    self.check_read(graphs, schema, form)
            self.assertEqual([(graph.nodes, graph.top) for graph in graphs], kept)

    def test_texts_that_are_read(self):
        """A text that is composed, written and composed again is the same graph."""
        for text in ("a: [1, 'b', {c: ~}]", "&x [*x, {*x : &y 0x1F}, *y]", "- |\n  a\n- >-\n  b\n  c\n", "? [a]\n: - b\n", "!t {a: !!x b}\n--- !\n- - 1\n"):
            for schema, form in WAYS:
                graphs = composed(read(text), schema)
                self.check_read(graphs, schema, form)

    def test_what_is_returned_is_new(self):
        graph = [Graph([("sequence", "!!seq", (0,))])]
        events = events_of(graph)
        events.append(None)
        self.assertEqual(events_of(graph), [("document", False), ("sequence", "a1", None, "block"), ("alias", "a1"), ("close",), ("over", False)])

    def test_names_of_arguments(self):
        graph = Graph([("sequence", "!!seq", (1,)), scalar("1", "!!int")])
        self.assertEqual(text_of([graph]), "- 1\n")
        self.assertEqual(text_of(graphs=[graph], form="flow", schema="text"), "[!!int 1]\n")
        self.assertEqual(events_of(graphs=[graph]), events_of([graph], "core", "block"))
        self.assertEqual(events_of([graph], form="flow"), events_of([graph], "core", "flow"))

    def test_many_nodes(self):
        """Graphs of 200 nodes, wide and with long contents, are written in a short time."""
        wide = Graph([("sequence", "!!seq", tuple(range(1, 200)))] + [scalar(str(at)) for at in range(199)])
        far = Graph([("sequence", "!!seq", tuple([1] * 1000)), scalar("a")])
        pairs = Graph([("mapping", "!!map", tuple([(at, 199) for at in range(1, 199)]))] + [scalar(str(at)) for at in range(198)] + [scalar("v")])
        deep = Graph([("sequence", "!!seq", (at + 1,)) for at in range(199)] + [scalar("a")])
        begun = time.perf_counter()
        for graph in (wide, far, pairs, deep):
            for schema, form in WAYS:
                self.assertNotEqual(text_of([graph], schema, form), "")
        self.assertLess(time.perf_counter() - begun, 5.0)

    # Errors

    def check_error(self, wrong, *told):
        for work in (events_of, text_of):
            with self.assertRaises(wrong[0]) as caught:
                work(*told)
            error = caught.exception
            self.assertEqual(vars(error), {{NoSchema: "schema", NoForm: "form", NoGraph: "index", BadTag: "place", LikeKeys: "place"}[wrong[0]]: wrong[1]})

    def test_no_schema(self):
        for thing in strange.ALL + ["Core", "core ", ("core",), "block"]:
            if thing != "core":
                with self.assertRaises(NoSchema) as caught:
                    events_of(None, thing, None)
                self.assertIs(caught.exception.schema, thing)
                with self.assertRaises(NoSchema) as caught:
                    text_of([Graph([scalar("a")])], thing)
                self.assertIs(caught.exception.schema, thing)

    def test_no_form(self):
        for thing in strange.ALL + ["Flow", "", "core"]:
            with self.assertRaises(NoForm) as caught:
                events_of(None, "core", thing)
            self.assertIs(caught.exception.form, thing)
            with self.assertRaises(NoForm) as caught:
                text_of([], "text", thing)
            self.assertIs(caught.exception.form, thing)

    def test_no_graphs_at_all(self):
        for thing in strange.NO_LISTS:
            self.check_error((NoGraph, -4), thing)
            self.check_error((NoGraph, -4), thing, "text", "flow")

    def test_no_graph(self):
        good = Graph([scalar("a")])
        for thing in strange.NO_GRAPHS:
            self.check_error((NoGraph, -3), [thing])
            self.check_error((NoGraph, -3), (good, thing, good))

    def test_bad_tags(self):
        self.check_error((BadTag, 0), [Graph([scalar("01", "!!int")])])
        self.check_error((BadTag, 0), [Graph([scalar("a", "!!seq")])], "text")
        self.check_error((BadTag, 0), [Graph([("sequence", "!!map", ())])], "text", "flow")
        self.check_error((BadTag, 1), [Graph([("sequence", "!!seq", (2, 1)), scalar("a", "!!map"), scalar("b", "!!bool")])])
        self.check_error((BadTag, 2), [Graph([("sequence", "!!seq", (2, 1)), scalar("a", "!!map"), scalar("b", "!!bool")])], "text")
        for sign in ("\r", "\x00", "\x7f", "\u00e9", "\u2028"):
            for schema, form in WAYS:
                self.check_error((BadTag, 1), [Graph([("sequence", "!!seq", (1,)), scalar("a" + sign)])], schema, form)
                self.check_error((BadTag, 0), [Graph([scalar(sign, "!x")])], schema, form)
        # A node that is not met does not count.
        self.assertEqual(text_of([Graph([scalar("a"), scalar("01", "!!int"), scalar("\r")])]), "a\n")

    def test_like_keys(self):
        like = Graph([("sequence", "!!seq", (1, 4)), ("mapping", "!!map", ((2, 2), (3, 2), (2, 3))), scalar("a"), scalar("b"), ("mapping", "!!map", ((2, 3), (5, 3))), scalar("a")])
        self.check_error((LikeKeys, (1, 2)), [like])
        top = Graph(like.nodes, 4)
        self.check_error((LikeKeys, (0, 1)), [top], "text", "flow")
        self.assertEqual(text_of([Graph(like.nodes, 2)]), "a\n")

    def test_order_of_errors(self):
        good, bad = Graph([scalar("a")]), Graph([scalar("01", "!!int")])
        like = Graph([("mapping", "!!map", ((1, 1), (1, 1))), scalar("a")])
        both = Graph([("mapping", "!!map", ((1, 2), (1, 2))), scalar("a"), scalar("01", "!!int")])
        self.check_error((NoSchema, 1), 2, 1, 3)
        self.check_error((NoForm, 3), 2, "core", 3)
        self.check_error((NoGraph, -4), 2, "core", "flow")
        self.check_error((NoGraph, -3), [None, bad, like])
        self.check_error((BadTag, 0), [good, bad, None])
        self.check_error((LikeKeys, (0, 1)), [good, like, bad, None])
        self.check_error((LikeKeys, (0, 1)), [like, None])
        self.check_error((BadTag, 2), [both, like])
        self.check_error((NoGraph, -3), [good, None, both])


class Rows(unittest.TestCase):
    def test_rows_and_texts(self):
        """What rows tell is read from the text again."""
        graph = graph_of([("sequence", "x", "!!seq"), ("mapping", None, "!y"), ("alias", "x"), ("scalar", "z", "!!str", "1"), ("close",), ("alias", "z"), ("close",)])
        self.assertEqual(text_of([graph]), "&a1\n- !y\n  *a1 : &a2 '1'\n- *a2\n")
        self.assertEqual(rows_of(composed(read(text_of([graph])), "core")[0]), rows_of(graph))


if __name__ == "__main__":
    unittest.main()
