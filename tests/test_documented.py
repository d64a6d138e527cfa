"""The examples of the document, as they stand there."""

import unittest

from anchorpages.composing import composed
from anchorpages.core import canonical, resolved, tag_needed, word_tag
from anchorpages.edits import changed, dropped, put, renamed
from anchorpages.errors import BadTag, NoEvents, NoFit, NoStyle, PageError, Refused
from anchorpages.graphs import graph_of, ringed, rows_of
from anchorpages.likeness import apart, equal
from anchorpages.likeness import least as least_graph
from anchorpages.logs import Page, replayed
from anchorpages.numbers import Number, is_less, least_word
from anchorpages.reader import read, refused
from anchorpages.rows import bare
from anchorpages.scalars import fits, least, read_scalar, written
from anchorpages.writers import events_of, events_text, text_of


class Examples(unittest.TestCase):
    def test_events(self):
        self.assertEqual(read("a:\n- 'b'  # c\n"), [
            ('document', False), ('mapping', None, None, 'block', 0), ('scalar', None, None, 'plain', 'a', 0, 1),
            ('sequence', None, None, 'block', 3), ('scalar', None, None, 'single', 'b', 5, 8), ('close', 8), ('close', 8),
            ('over', False)])
        self.assertEqual([refused(text) for text in ("a: b: c", "[a, b", "a: [\n]", "|\n   \n a", "- a\n b")],
                         [5, 5, 5, 7, None])
        self.assertEqual([event[4] for event in read("- >\n  a\n  b\n\n  c\n   d\n- |-\n  e\n\n") if event[0] == "scalar"],
                         ['a b\nc\n d\n', 'e'])
        self.assertEqual([event[1] for event in read("&x\na: &y b\nc: *y") if event[0] != "close"],
                         [False, 'x', None, 'y', None, 'y', False])

    def test_scalars(self):
        self.assertIs(fits("a: b", "plain", "block"), False)
        self.assertIs(fits("a:b", "plain", "flow"), True)
        self.assertIs(fits("--- a", "plain", "block"), True)
        self.assertIs(fits("a ", "plain", "key"), False)
        self.assertEqual(written("it's", "single", "key", 0), "'it''s'")
        self.assertEqual(written(" a\nb", "literal", "block", 2).split("\n"), ["|1-", "   a", "  b"])
        self.assertEqual(written(" a\nb", "literal", "block", 2, deep=2).split("\n"), ["|2-", "   a", "  b"])
        self.assertEqual(least("", "flow", 0), ("single", "''"))
        self.assertEqual(written("one two three", "plain", "block", 2, 8).split("\n"), ["one two", "  three"])
        self.assertEqual(read_scalar("|\n ab", "literal", "block", 1), "ab\n")

    def test_words(self):
        words = ["0x1F", "1e3", "+.inf", "0b1", "yes", "-0x1", ".", "1_000"]
        self.assertEqual([word_tag(word) for word in words], ["!!int", "!!float", "!!float"] + ["!!str"] * 5)
        self.assertEqual(canonical("!!float", "-120.50"), "-1205e-1")
        self.assertEqual(canonical("!!float", "700"), "7e2")
        self.assertEqual(canonical("!!float", "-0.0"), "0e0")
        self.assertEqual(canonical("!!int", "0o17"), "15")
        self.assertIsNone(canonical("!!int", "1.0"))

    def test_tags(self):
        self.assertEqual(resolved("scalar", None, "plain", "0x10", "core"), ("!!int", "16"))
        self.assertEqual(resolved("scalar", "!", "plain", "0x10", "core"), ("!!str", "0x10"))
        with self.assertRaises(BadTag):
            resolved("scalar", "!!float", "plain", "0x10", "core")
        self.assertEqual(resolved("scalar", "!!int", "double", "12", "core"), ("!!int", "12"))
        self.assertEqual(resolved("scalar", None, "double", "12", "core"), ("!!str", "12"))
        self.assertEqual(tag_needed("scalar", "!!str", "12", "plain", "core"), "!")
        self.assertIsNone(tag_needed("scalar", "!!str", "12", "double", "core"))
        self.assertIsNone(tag_needed("scalar", "!!int", "12", "plain", "core"))
        self.assertEqual(tag_needed("scalar", "!!int", "12", "double", "core"), "!!int")
        self.assertIsNone(tag_needed("scalar", "!!str", "a", "plain", "core"))

    def test_graphs(self):
        graph = graph_of([("sequence", "x", "!!seq"), ("scalar", "y", "!!str", "b"), ("alias", "x"), ("alias", "y"), ("close",)])
        self.assertEqual([graph.nodes, ringed(graph), rows_of(graph)[:2]], [
            (('sequence', '!!seq', (1, 0, 1)), ('scalar', '!!str', 'b')), [0], [('sequence', 'a1', '!!seq'), ('scalar', 'a2', '!!str', 'b')]])

    def test_likeness(self):
        one = graph_of([("sequence", "x", "!!seq"), ("alias", "x"), ("close",)])
        two = graph_of([("sequence", "x", "!!seq"), ("sequence", None, "!!seq"), ("alias", "x"), ("close",), ("close",)])
        three = graph_of([("sequence", None, "!!seq"), ("sequence", None, "!!seq"), ("close",), ("close",)])
        self.assertEqual([equal(one, two), least_graph(two) == one, apart(one, three)], [True, True, 1])

    def test_numbers(self):
        told = [("!!int", "12", "12"), ("!!int", "1000000", "0xF4240"), ("!!int", "-1000000", "-1000000"), ("!!float", "1e0", "1."), ("!!float", "5e-1", ".5"),
                ("!!float", "1e3", "1E3"), ("!!float", "1e1000", "10E999"), ("!!float", "0e0", ".0"), ("!!float", ".inf", ".INF"), ("!!bool", "true", "TRUE")]
        for tag, content, word in told:
            self.assertEqual(least_word(tag, content), word)
        with self.assertRaises(BadTag) as caught:
            least_word("!!seq", "")
        self.assertEqual(caught.exception.place, 0)
        self.assertEqual(Number("!!int", "1000"), Number("!!float", "1e3"))
        self.assertIs(is_less(Number("!!float", "1e999999999"), Number("!!int", "1")), False)

    def test_key_that_fits_no_block(self):
        self.assertEqual(read("a:: b")[2], ("scalar", None, None, "plain", "a:", 0, 2))
        self.assertFalse(fits("a:", "plain", "block"))

    def test_errors(self):
        for kind, work in ((Refused, lambda: read("]")), (NoFit, lambda: written("", "plain", "block", 0)),
                           (NoStyle, lambda: fits("", "", ""))):
            with self.assertRaises(kind) as caught:
                work()
            self.assertIsInstance(caught.exception, PageError)
            self.assertIsInstance(caught.exception, ValueError)

    def test_events_text(self):
        rows = [("document", False), ("mapping", None, None, "block"), ("scalar", "x", None, "plain", "a"),
                ("sequence", None, None, "block"), ("sequence", None, None, "block"), ("alias", "x"), ("close",),
                ("scalar", None, None, "literal", "b\n"), ("close",), ("close",), ("over", False)]
        self.assertEqual(events_text(rows).split("\n"), ['&x a:', '  - - *x', '  - |', '    b', ''])
        self.assertEqual(bare(read(events_text(rows))), rows)

    def test_no_text(self):
        """Not all bare events that can be read have a text: a plain key `a:` does not fit "block"."""
        rows = bare(read("a:: b"))
        self.assertEqual(rows[2], ("scalar", None, None, "plain", "a:"))
        with self.assertRaises(NoEvents) as caught:
            events_text(rows)
        self.assertEqual(caught.exception.index, 2)

    def test_text_of_graphs(self):
        for form in ("block", "flow"):
            graphs = composed(read("&x a: [*x, b]\n--- 1\n"), "core")
            text = text_of(graphs, "core", form)
            self.assertEqual(bare(read(text)), events_of(graphs, "core", form))
            self.assertEqual(composed(read(text), "core"), graphs)

    def test_edits(self):
        text = "- &x a  # one\n- [*x, b]\n"
        self.assertEqual([dropped(text, 5), renamed(text, 2, "yy"), changed(text, put(text, 1, 1, [("alias", "x")])).split("\n")],
                         [[(21, 22, '')], [(3, 4, 'yy'), (18, 19, 'yy')], ['- &x a  # one', '- *x', '- [*x, b]', '']])

    def test_pages(self):
        page = Page("a: &x b")
        self.assertEqual([page.say(line) for line in ("rename 3 y", "event 3", "drop 3", "drop 2", "undo", "text")],
                         ['ok', '"scalar" "y" none "plain" "b" 3 7', 'refused', 'ok', 'yes', '"a: &y b"'])
        self.assertEqual(replayed(page.log()).past(), [('rename', 3, 'y')])


if __name__ == "__main__":
    unittest.main()
