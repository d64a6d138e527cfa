"""The interface as the document lists it, and what holds of all of its functions."""

import copy
import importlib
import inspect
import unittest

from anchorpages import errors
from anchorpages.composing import composed
from anchorpages.edits import changed, dropped, put, renamed, rewritten
from anchorpages.errors import PageError
from anchorpages.graphs import Graph
from anchorpages.logs import Page, replayed
from anchorpages.numbers import Number
from anchorpages.reader import read
from anchorpages.rows import bare
from anchorpages.writers import events_of, events_text, text_of

# Of each file its functions and classes, with their arguments.
FUNCTIONS = {
    "reader": {"read": "(text)", "refused": "(text)"},
    "scalars": {"fits": "(value, style, context)", "written": "(value, style, context, indent, width=0, deep=1)",
                "read_scalar": "(text, style, context, indent, deep=1)", "least": "(value, context, indent)"},
    "graphs": {"ordered": "(graph)", "shared": "(graph)", "ringed": "(graph)", "rows_of": "(graph)", "graph_of": "(rows)", "unfolded": "(graph, depth)",
               "unfolded_size": "(graph, depth)"},
    "likeness": {"parts": "(graph)", "parted_at": "(graph, one, other)", "apart": "(graph, other)", "equal": "(graph, other)", "like_keys": "(graph)",
                 "alike": "(graph, other)", "least": "(graph)", "paper_of": "(graph, other)", "judged": "(graph, other, paper)"},
    "composing": {"composed": "(events, schema)"},
    "core": {"word_tag": "(word)", "canonical": "(tag, word)", "resolved": "(kind, tag, style, value, schema, *, place=0)",
             "tag_fits": "(kind, tag, content, schema)", "tag_needed": "(kind, tag, content, style, schema, *, place=0)"},
    "numbers": {"least_word": "(tag, content)", "is_less": "(one, other)"},
    "rows": {"bare": "(events)"},
    "writers": {"events_text": "(rows)", "events_of": "(graphs, schema='core', form='block')", "text_of": "(graphs, schema='core', form='block')"},
    "edits": {"changed": "(text, changes)", "renamed": "(text, k, name)", "rewritten": "(text, k, style, value)", "dropped": "(text, k)",
              "put": "(text, k, at, rows)"},
    "logs": {"replayed": "(log)"},
}
CLASSES = {
    ("graphs", "Graph"): ("(nodes, top=0)", {"__eq__": "(self, other)"}),
    ("numbers", "Number"): ("(tag, content)", {"__eq__": "(self, other)", "state": None, "figures": None, "power": None}),
    ("logs", "Page"): ("(text)", {"current": "(self)", "rename": "(self, k, name)", "rewrite": "(self, k, style, value)", "drop": "(self, k)",
                                  "put": "(self, k, at, rows)", "undo": "(self)", "redo": "(self)", "past": "(self)", "log": "(self)", "say": "(self, line)"}),
}


def module(name):
    return importlib.import_module("anchorpages." + name)


class Interface(unittest.TestCase):
    def test_functions(self):
        for name, functions in FUNCTIONS.items():
            for function, told in functions.items():
                with self.subTest(name=name, function=function):
                    thing = getattr(module(name), function)
                    self.assertTrue(inspect.isfunction(thing))
                    self.assertEqual(thing.__module__, "anchorpages." + name)
                    self.assertEqual(str(inspect.signature(thing)), told)

    def test_classes(self):
        for (name, kind), (told, methods) in CLASSES.items():
            with self.subTest(name=name, kind=kind):
                thing = getattr(module(name), kind)
                self.assertEqual(thing.__module__, "anchorpages." + name)
                self.assertEqual(str(inspect.signature(thing)), told)
                for method, arguments in methods.items():
                    own = vars(thing)[method]
                    if arguments is None:
                        self.assertIsInstance(own, property)
                    else:
                        self.assertEqual(str(inspect.signature(own)), arguments)

    def test_errors_are_those_of_the_package(self):
        """Each error stands directly under PageError, and is the same class in every file."""
        told = {name: thing for name, thing in vars(errors).items() if inspect.isclass(thing)}
        for name in list(FUNCTIONS) + ["places", "lines", "walks", "sayings"]:
            for each, thing in vars(module(name)).items():
                if inspect.isclass(thing) and issubclass(thing, Exception):
                    self.assertIs(thing, told[each])
        self.assertEqual({name for name, thing in told.items() if thing.__bases__ != (PageError,)}, {"PageError"})

    def test_fields_of_objects(self):
        graph = Graph([("scalar", "!!str", "a")])
        self.assertEqual((graph.nodes, graph.top), ((("scalar", "!!str", "a"),), 0))
        number = Number("!!float", "12e3")
        self.assertEqual((number.state, number.figures, number.power), ("finite", 12, 3))


class Whole(unittest.TestCase):
    """What is passed is not changed, what is returned is new, and the same question has the same answer."""

    TEXT = "&x a:\n- *x\n- {b: [c, \"d\"]}\n--- |\n  e\n"

    def questions(self):
        events = read(self.TEXT)
        graphs = composed(read("a: [1, {b: c}]\n--- &x [*x]\n"), "core")
        row = ("scalar", None, None, "plain", "n")
        return [
            (read, (self.TEXT,)), (bare, (events,)), (events_text, (bare(events),)), (composed, (read("a: b\n"), "core")),
            (events_of, (graphs,)), (events_of, (graphs, "text", "flow")), (text_of, (graphs, "core", "flow")),
            (changed, (self.TEXT, [(0, 2, "&y"), (3, 3, "")])), (renamed, (self.TEXT, 2, "z")), (rewritten, (self.TEXT, 8, "single", "q")), (dropped, (self.TEXT, 4)),
            (put, (self.TEXT, 3, 1, [row])), (put, (self.TEXT, 5, 1, [row, row])),
        ]

    def test_arguments_stay(self):
        for work, told in self.questions():
            with self.subTest(work=work.__name__):
                kept = copy.deepcopy(told)
                one = work(*told)
                self.assertEqual(told, kept)
                self.assertEqual(work(*told), one)

    def test_what_is_returned_is_new(self):
        for work, told in self.questions():
            with self.subTest(work=work.__name__):
                one, other = work(*told), work(*told)
                if isinstance(one, list):
                    self.assertIsNot(one, other)
                    self.assertFalse(any(one is part for part in told))
                    kept = list(other)
                    one.append(None)
                    self.assertEqual(work(*told), kept)

    def test_lists_and_tuples(self):
        for work, told in self.questions():
            other = [tuple(part) if isinstance(part, list) else part for part in told]
            with self.subTest(work=work.__name__):
                self.assertEqual(work(*other), work(*told))

    def test_pages_are_their_own(self):
        """Two pages share nothing, and what one returns is not what it keeps."""
        one, other = Page("- a\n"), Page("- a\n")
        rows = [("scalar", None, None, "plain", "b")]
        one.put(1, 0, rows)
        self.assertEqual((other.current(), other.past(), other.undo()), ("- a\n", [], False))
        past = one.past()
        past.clear()
        self.assertEqual(len(one.past()), 1)
        again = replayed(one.log())
        again.undo()
        self.assertEqual((one.current(), again.current()), ("- b\n- a\n", "- a\n"))

    def test_read_and_written(self):
        """Events that have a text are read from it again, and a graph that is written is the very graph."""
        for text in ("", "a", "- &x [a, *x]\n", "? |\n  a\n: 'b\n\n  c'\n", "--- !t\n...\n--- {: a, b}\n", self.TEXT.replace("*x", "*y")):
            rows = bare(read(text))
            self.assertEqual(bare(read(events_text(rows))), rows)
        for text in ("a: [1, {b: c}]\n", "&x [*x, {*x : 0x10}]\n--- ''\n", "- |\n  a\n- !x\n"):
            for schema in ("core", "text"):
                graphs = composed(read(text), schema)
                for form in ("block", "flow"):
                    self.assertEqual(composed(read(text_of(graphs, schema, form)), schema), graphs)


if __name__ == "__main__":
    unittest.main()
