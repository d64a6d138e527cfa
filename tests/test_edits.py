"""Changes of texts."""

import random
import time
import unittest

from anchorpages import edits
from anchorpages.edits import changed, dropped, put, renamed, rewritten
from anchorpages.errors import (Captured, Needed, NoAnchor, NoChange, NoCollection, NoEntry, NoEvents, NoName, NoPlace, NoScalar, NoStyle,
                                NoValue, PageError, Refused, Spoilt)
from anchorpages.reader import read, refused
from anchorpages.rows import bare
from anchorpages.writers import events_text
from tests import plain_edits
from tests import plain_writing
from tests import strange
from tests.test_rules import pieces_text, rows_text

FIELDS = {Refused: "place", NoEntry: "k", Needed: "place", Spoilt: "k", NoCollection: "k", NoPlace: "number", NoEvents: "index", Captured: "place",
          NoAnchor: "k", NoName: "name", NoScalar: "k", NoStyle: "part", NoValue: "thing", NoChange: "index"}
NO_TEXTS = [thing for thing in strange.ALL if not isinstance(thing, str)]


def plain(value, anchor=None, tag=None):
    return ("scalar", anchor, tag, "plain", value)


A, B, N = plain("a"), plain("b"), plain("n")
VOID = plain("")
CLOSE = ("close",)


def outcome(work, *told):
    """What is returned, or the class of the error and what it tells."""
    try:
        return work(*told)
    except PageError as error:
        return type(error), getattr(error, FIELDS[type(error)])


def index_of(text, what):
    """The index of the first event of which a part is this."""
    return [index for index, event in enumerate(read(text)) if what in event][0]


class Edits(unittest.TestCase):
    def check_error(self, kind, told, work, *arguments):
        with self.assertRaises(kind) as caught:
            work(*arguments)
        self.assertEqual(vars(caught.exception), {FIELDS[kind]: told})


class Changed(Edits):
    def test_changes(self):
        self.assertEqual(changed("abc", []), "abc")
        self.assertEqual(changed("abc", ()), "abc")
        self.assertEqual(changed("", []), "")
        self.assertEqual(changed("abc", [(1, 2, "")]), "ac")
        self.assertEqual(changed("abc", [(0, 3, "xyzw")]), "xyzw")
        self.assertEqual(changed("abc", [(0, 1, "x"), (2, 3, "y")]), "xby")
        self.assertEqual(changed("abc", ((0, 1, "x"), (1, 2, "y"), (2, 3, "z"))), "xyz")
        self.assertEqual(changed("abc", [(0, 0, "x"), (3, 3, "y")]), "xabcy")
        self.assertEqual(changed("abc", [(1, 1, "x"), (1, 1, "y"), (1, 2, "z"), (2, 2, "w")]), "axyzwc")
        self.assertEqual(changed("", [(0, 0, "a"), (0, 0, "b")]), "ab")
        self.assertEqual(changed(text="abc", changes=[(2, 3, "\n")]), "ab\n")
        # The new text need not be one of a stream, nor the old one.
        self.assertEqual(changed("[", [(1, 1, "[")]), "[[")

    def test_no_list(self):
        for thing in strange.NO_LISTS:
            self.check_error(NoChange, -1, changed, "abc", thing)

    def test_elements_that_are_no_changes(self):
        for thing in strange.ALL:
            self.check_error(NoChange, 0, changed, "abc", [thing])
            self.check_error(NoChange, 1, changed, "abc", ((0, 1, "x"), thing, None))
        for other in ((0, 1), (0, 1, "x", "y"), [0, 1, "x"], ("x", 0, 1), ((0, 1, "x"),)):
            self.check_error(NoChange, 0, changed, "abc", [other])

    def test_parts_of_other_kinds(self):
        for thing in strange.ALL:
            if type(thing) is not int:
                self.check_error(NoChange, 0, changed, "abc", [(thing, 1, "x")])
                self.check_error(NoChange, 0, changed, "abc", [(0, thing, "x")])
            elif thing not in (0, 1):
                self.check_error(NoChange, 0, changed, "a", [(thing, thing, "x")])
                self.check_error(NoChange, 0, changed, "a", [(0, thing, "x")])
            if not isinstance(thing, str):
                self.check_error(NoChange, 0, changed, "abc", [(0, 1, thing)])

    def test_order_of_places(self):
        self.check_error(NoChange, 0, changed, "abc", [(2, 1, "")])
        self.check_error(NoChange, 1, changed, "abc", [(0, 2, ""), (1, 2, "")])
        self.check_error(NoChange, 1, changed, "abc", [(2, 2, ""), (1, 1, "")])
        self.check_error(NoChange, 0, changed, "abc", [(-1, 2, "")])
        self.check_error(NoChange, 0, changed, "abc", [(3, 4, "")])
        self.check_error(NoChange, 2, changed, "abc", [(0, 0, "x"), (1, 3, ""), (2, 3, ""), None])

    def test_arguments_stay(self):
        changes = [(0, 1, "x")]
        changed("abc", changes)
        self.assertEqual(changes, [(0, 1, "x")])


class Renamed(Edits):
    def check(self, text, k, name, changes, new):
        self.assertEqual(renamed(text, k, name), changes)
        self.assertEqual(changed(text, changes), new)
        self.assertEqual(plain_edits.renamed(text, k, name), changes)
        self.assertEqual(read(new)[k][1], name)
        self.assertEqual(changed(new, renamed(new, k, read(text)[k][1])), text)

    def test_names(self):
        self.check("&x a", 1, "yy", [(1, 2, "yy")], "&yy a")
        self.check("- &x a\n- *x\n- [*x, {*x : *x }]\n", 2, "longer", [(3, 4, "longer"), (10, 11, "longer"), (16, 17, "longer"), (21, 22, "longer"), (26, 27, "longer")],
                   "- &longer a\n- *longer\n- [*longer, {*longer : *longer }]\n")
        self.check("&x\n- *x\n", 1, "y", [(1, 2, "y"), (6, 7, "y")], "&y\n- *y\n")
        self.check("&x {a: *x}", 1, ":", [(1, 2, ":"), (8, 9, ":")], "&: {a: *:}")
        self.check("&x a: &y b\n*y : c", 3, "x:", [(7, 8, "x:"), (12, 13, "x:")], "&x a: &x: b\n*x: : c")
        self.check("[&x , *x]", 2, "#", [(2, 3, "#"), (7, 8, "#")], "[&# , *#]")

    def test_properties(self):
        """The name stands behind a tag, and what parts it from this, or ahead of it."""
        self.check("!t &x a", 1, "y", [(4, 5, "y")], "!t &y a")
        self.check("&x !t a", 1, "y", [(1, 2, "y")], "&y !t a")
        self.check("- !t # &x c\n  # &x\n\n  &x a\n- *x\n", 2, "y", [(23, 24, "y"), (30, 31, "y")], "- !t # &x c\n  # &x\n\n  &y a\n- *y\n")
        self.check("!t\n&x\n&y a: b\n", 1, "z", [(4, 5, "z")], "!t\n&z\n&y a: b\n")
        self.check("!t\n&x\n&y a: b\n", 2, "z", [(7, 8, "z")], "!t\n&x\n&z a: b\n")
        self.check("!t\n&x a: b\n", 2, "z", [(4, 5, "z")], "!t\n&z a: b\n")
        self.check("&x\n!t a: *x\n", 1, "z", [(1, 2, "z"), (10, 11, "z")], "&z\n!t a: *z\n")
        self.check("&x |\n  a\n", 1, "z", [(1, 2, "z")], "&z |\n  a\n")

    def test_same_name(self):
        self.check("- &x a\n- *x\n", 2, "x", [(3, 4, "x"), (10, 11, "x")], "- &x a\n- *x\n")

    def test_other_nodes_with_this_anchor(self):
        text = "- &x a\n- *x\n- &x b\n- *x\n"
        self.check(text, 2, "y", [(3, 4, "y"), (10, 11, "y")], "- &y a\n- *y\n- &x b\n- *x\n")
        self.check(text, 4, "y", [(15, 16, "y"), (22, 23, "y")], "- &x a\n- *x\n- &y b\n- *y\n")
        self.check("- &x [*x]\n- &x b\n- *x", 2, "y", [(3, 4, "y"), (7, 8, "y")], "- &y [*y]\n- &x b\n- *x")

    def test_alias_ahead(self):
        """An alias ahead of the anchor stands for none, and stays."""
        self.check("- *x\n- &x a\n- *x\n", 3, "y", [(8, 9, "y"), (15, 16, "y")], "- *x\n- &y a\n- *y\n")
        self.check("- *y\n- &x a\n- *x\n", 3, "y", [(8, 9, "y"), (15, 16, "y")], "- *y\n- &y a\n- *y\n")

    def test_other_documents(self):
        text = "&x a\n--- *x\n--- [&x b, *x]\n"
        self.check(text, 1, "y", [(1, 2, "y")], "&y a\n--- *x\n--- [&x b, *x]\n")
        self.check(text, 8, "y", [(18, 19, "y"), (24, 25, "y")], "&x a\n--- *x\n--- [&y b, *y]\n")
        self.check("[&y a, *y]\n--- [&x b, *x]\n--- *y\n", 8, "y", [(17, 18, "y"), (23, 24, "y")], "[&y a, *y]\n--- [&y b, *y]\n--- *y\n")

    def test_captured(self):
        self.check_error(Captured, 10, renamed, "- &x a \n- *y\n- *x\n- *y\n", 2, "y")
        # An alias that stood for another node.
        self.check_error(Captured, 16, renamed, "- &y b\n- &x a\n- *y\n- *x\n", 3, "y")
        # An alias that would stand for another node than the renamed one.
        self.check_error(Captured, 16, renamed, "- &x a\n- &y b\n- *x\n- *y\n", 2, "y")
        # An alias within the node.
        self.check_error(Captured, 4, renamed, "&x [*y]\n", 1, "y")
        # The first one of several.
        self.check_error(Captured, 9, renamed, "- &x a\n- *y\n- *y\n", 2, "y")
        # There is nothing to be captured ahead, and behind a node that has the name.
        self.check("- &x a\n- *x\n- &y b\n- *y\n", 2, "y", [(3, 4, "y"), (10, 11, "y")], "- &y a\n- *y\n- &y b\n- *y\n")

    def test_no_anchor(self):
        text = "- &x a\n- *x\n- b\n- {c: !t d}\n- - e\n"
        for k in [index for index in range(len(read(text))) if index != 2] + [-1, len(read(text)), 10 ** 20]:
            self.check_error(NoAnchor, k, renamed, text, k, None)
        for thing in strange.NO_WHOLE + strange.LISTS:
            with self.assertRaises(NoAnchor) as caught:
                renamed("&x a", thing, "y")
            self.assertIs(caught.exception.k, thing)
        self.check_error(NoAnchor, 0, renamed, "", 0, "y")

    def test_no_name(self):
        for thing in [thing for thing in strange.ALL if not isinstance(thing, str)] + ["", " ", "a b", "a,", "[", "]", "{a", "}", "a\n", "\t"]:
            with self.assertRaises(NoName) as caught:
                renamed("&x a", 1, thing)
            self.assertIs(caught.exception.name, thing)


class Rewritten(Edits):
    def check(self, text, k, style, value, change, new):
        self.assertEqual(rewritten(text, k, style, value), [change])
        self.assertEqual(changed(text, [change]), new)
        self.assertEqual(plain_edits.rewritten(text, k, style, value), [change])
        due = bare(read(text))
        due[k] = due[k][:3] + (style, value)
        self.assertEqual(bare(read(new)), due)

    def test_styles(self):
        self.check("a", 1, "plain", "b c", (0, 1, "b c"), "b c")
        self.check("'a'", 1, "plain", "b", (0, 3, "b"), "b")
        self.check("a: b # c\n", 3, "single", "it's", (3, 4, "'it''s'"), "a: 'it''s' # c\n")
        self.check("a: b\n", 2, "double", "x\n\"\\\t", (0, 1, "\"x\\n\\\"\\\\\t\""), "\"x\\n\\\"\\\\\t\": b\n")
        self.check("- &x !t a\n", 2, "double", "", (8, 9, "\"\""), "- &x !t \"\"\n")
        self.check("- &x # c\n  a\n", 2, "plain", "b", (11, 12, "b"), "- &x # c\n  b\n")
        self.check("[a, 'b']", 3, "plain", "c", (4, 7, "c"), "[a, c]")
        self.check("{a: b}", 3, "single", "", (4, 5, "''"), "{a: ''}")
        # No blank is put ahead of what is not in the place of an empty node.
        self.check("{\"a\":b}", 3, "plain", "c", (5, 6, "c"), "{\"a\":c}")
        self.check("[[]:'b']", 5, "plain", "c", (4, 7, "c"), "[[]:c]")

    def test_several_lines(self):
        self.check("- a\n  b\n  c # d\n- e\n", 2, "plain", "f", (2, 11, "f"), "- f # d\n- e\n")
        self.check("- &x \"a\n\n  b\"\n", 2, "single", "f", (5, 13, "'f'"), "- &x 'f'\n")
        self.check("{a\n b: c}", 2, "plain", "f", (1, 5, "f"), "{f: c}")

    def test_empty_ones(self):
        self.check("a:\n", 3, "plain", "b", (2, 2, " b"), "a: b\n")
        self.check("a: # c\n", 3, "plain", "b", (2, 2, " b"), "a: b # c\n")
        self.check("a: \n", 3, "plain", "b", (2, 2, " b"), "a: b \n")
        self.check("- \n", 2, "plain", "b", (1, 1, " b"), "- b \n")
        self.check("-\n", 2, "double", "", (1, 1, " \"\""), "- \"\"\n")
        self.check("---\n", 1, "plain", "b", (3, 3, " b"), "--- b\n")
        self.check(": a\n", 2, "plain", "b", (0, 0, "b"), "b: a\n")
        self.check(": a", 2, "plain", "b", (0, 0, "b"), "b: a")
        self.check("- : a\n", 3, "plain", "b", (2, 2, "b"), "- b: a\n")
        self.check("?\n: a\n", 2, "plain", "b", (1, 1, " b"), "? b\n: a\n")
        self.check("- &x\n", 2, "plain", "b", (4, 4, " b"), "- &x b\n")
        self.check("&x : !t\n", 2, "plain", "b", (2, 2, " b"), "&x b : !t\n")
        self.check("&x : !t\n", 3, "plain", "b", (7, 7, " b"), "&x : !t b\n")
        self.check("{: a}", 2, "plain", "b", (1, 1, "b"), "{b: a}")
        self.check("{a: , b: }", 3, "plain", "c", (3, 3, " c"), "{a: c , b: }")
        self.check("{a: ,: }", 4, "plain", "c", (5, 5, "c"), "{a: ,c: }")
        self.check("[: a]", 3, "plain", "c", (1, 1, "c"), "[c: a]")
        self.check("[&x , b]", 2, "plain", "c", (3, 3, " c"), "[&x c , b]")
        self.check("{a: b,\n: c}", 4, "plain", "d", (7, 7, "d"), "{a: b,\nd: c}")

    def test_made_empty(self):
        self.check("a: b\n", 3, "plain", "", (3, 4, ""), "a: \n")
        self.check("a: b\n", 2, "plain", "", (0, 1, ""), ": b\n")
        self.check("- 'b' # c\n", 2, "plain", "", (2, 5, ""), "-  # c\n")
        self.check("- &x b\n", 2, "plain", "", (5, 6, ""), "- &x \n")
        self.check("[&x b]", 2, "plain", "", (4, 5, ""), "[&x ]")
        self.check("a:\n", 3, "plain", "", (2, 2, ""), "a:\n")
        self.check("- &x\n", 2, "plain", "", (4, 4, ""), "- &x\n")
        self.check("{a: b}", 3, "plain", "", (4, 5, ""), "{a: }")

    def test_spoilt(self):
        self.check_error(Spoilt, 2, rewritten, "[a, b]", 2, "plain", "")
        self.check_error(Spoilt, 1, rewritten, "a", 1, "plain", "")
        self.check_error(Spoilt, 3, rewritten, "{a}", 3, "plain", "b")
        self.check_error(Spoilt, 3, rewritten, "? a\n", 3, "plain", "b")
        self.check_error(Spoilt, 2, rewritten, "{\"a\":b}", 2, "plain", "a")
        self.check_error(Spoilt, 1, rewritten, "a", 1, "plain", "---")
        self.check_error(Spoilt, 2, rewritten, "a: b", 2, "plain", "--- a")

    def test_no_scalar(self):
        text = "- &x |\n  a\n- *x\n- >\n  a\n- [b]\n- {}\n"
        good = [index for index, event in enumerate(read(text)) if event[0] == "scalar" and event[3] == "plain"]
        self.assertEqual(len(good), 1)
        for k in [index for index in range(len(read(text))) if index not in good] + [-1, len(read(text)), 10 ** 20]:
            self.check_error(NoScalar, k, rewritten, text, k, None, None)
        for thing in strange.NO_WHOLE + strange.LISTS:
            with self.assertRaises(NoScalar) as caught:
                rewritten("a", thing, "plain", "b")
            self.assertIs(caught.exception.k, thing)

    def test_no_style(self):
        for thing in strange.ALL + ["literal", "folded", "Plain", "plain "]:
            self.check_error(NoStyle, "style", rewritten, "a", 1, thing, None)

    def test_no_value(self):
        for thing in [thing for thing in strange.ALL if not isinstance(thing, str)] + ["a" * 3001, "\r"]:
            for style in ("plain", "single", "double"):
                with self.assertRaises(NoValue) as caught:
                    rewritten("a", 1, style, thing)
                self.assertIs(caught.exception.thing, thing)
        for value in ("a\nb", "a:", "-", ":", "a: b", " a", "a ", "\t", "#", "a #b", "[", "&a", "*a"):
            self.check_error(NoValue, value, rewritten, "a: b", 3, "plain", value)
            self.check_error(NoValue, value, rewritten, "a: b", 2, "plain", value)
            self.check_error(NoValue, value, rewritten, "[a]", 2, "plain", value)
            self.check_error(NoValue, value, rewritten, "[a: b]", 3, "plain", value)
        for value in ("a\nb", "\n"):
            self.check_error(NoValue, value, rewritten, "a: b", 3, "single", value)
            self.check_error(NoValue, value, rewritten, "[a]", 2, "single", value)
        for value in ("a,b", "a]", "{", "a:,", "-,"):
            self.check_error(NoValue, value, rewritten, "[a]", 2, "plain", value)
            self.check_error(NoValue, value, rewritten, "[a: b]", 3, "plain", value)
            self.check_error(NoValue, value, rewritten, "? {a: b}\n", 3, "plain", value)
        self.check("- a,b\n", 2, "plain", "a]", (2, 5, "a]"), "- a]\n")
        self.check("[a]: b\n", 5, "plain", "c,d", (5, 6, "c,d"), "[a]: c,d\n")


class Dropped(Edits):
    def check(self, text, k, changes, new):
        self.assertEqual(dropped(text, k), changes)
        self.assertEqual(changed(text, changes), new)
        self.assertEqual(plain_edits.dropped(text, k), changes)

    def test_lines(self):
        text = "- a # c\n# d\n\n- b\n  e\n- f\n"
        self.check(text, 2, [(0, 8, "")], "# d\n\n- b\n  e\n- f\n")
        self.check(text, 3, [(13, 21, "")], "- a # c\n# d\n\n- f\n")
        self.check(text, 4, [(21, 25, "")], "- a # c\n# d\n\n- b\n  e\n")
        text = "a: b\nc:\n  - d\n  # e\n? f\n: g\n: h\n"
        self.check(text, 2, [(0, 5, "")], text[5:])
        self.check(text, 4, [(5, 14, "")], "a: b\n  # e\n? f\n: g\n: h\n")
        self.check(text, 8, [(20, 28, "")], "a: b\nc:\n  - d\n  # e\n: h\n")
        self.check(text, 10, [(28, 32, "")], "a: b\nc:\n  - d\n  # e\n? f\n: g\n")

    def test_at_the_end(self):
        self.check("- a\n- b", 3, [(4, 7, "")], "- a\n")
        self.check("a: b\nc: 'd\n\n  e'", 4, [(5, 16, "")], "a: b\n")
        self.check("a: b\nc:", 4, [(5, 7, "")], "a: b\n")

    def test_moved_in(self):
        self.check("  - a\n  - b\n", 2, [(0, 6, "")], "  - b\n")
        self.check("a:\n  b: c\n  d: e\n", 4, [(3, 10, "")], "a:\n  d: e\n")
        self.check("a:\n- b\n- c\n", 4, [(3, 7, "")], "a:\n- c\n")
        self.check("&x\n- a\n- b\n", 2, [(3, 7, "")], "&x\n- b\n")
        self.check("--- &x # c\n# d\n- a\n- b\n", 2, [(15, 19, "")], "--- &x # c\n# d\n- b\n")

    def test_block_scalars(self):
        self.check("- |\n  a\n\n  \n- b\n", 2, [(0, 12, "")], "- b\n")
        self.check("- b\n- |+\n  a\n\n\n", 3, [(4, 15, "")], "- b\n")
        self.check("- b\n- |\n  a\n   \n  \n  c\n  \n", 3, [(4, 26, "")], "- b\n")
        self.check("- b\n- |\n  a\n ", 3, [(4, 13, "")], "- b\n")
        self.check("- >- # c\n\n\n- b\n", 2, [(0, 11, "")], "- b\n")
        self.check("- a: |\n    b\n\n  c: d\n- e\n\n", 3, [(2, 16, "")], "- c: d\n- e\n\n")
        self.check("- - a\n  - |\n    b\n\n# c\n- d\n", 2, [(0, 19, "")], "# c\n- d\n")
        self.check("- |\n  a\n\n# c\n- b\n", 2, [(0, 9, "")], "# c\n- b\n")
        # Blank lines behind other nodes stay.
        self.check("- a\n\n- b\n", 2, [(0, 4, "")], "\n- b\n")
        self.check("- - |\n    a\n  - b\n\n- c\n", 2, [(0, 18, "")], "\n- c\n")

    def test_empty_value_behind_a_block_scalar(self):
        """The last node of this entry is its value, an empty node, and none of the lines behind it is its own."""
        self.check("? |\n  a\n\nb: c\n", 2, [(0, 8, "")], "\nb: c\n")
        self.check("? |\n  a\n:\n\nb: c\n", 2, [(0, 10, "")], "\nb: c\n")
        self.check("? a\n: |\n  a\n\nb: c\n", 2, [(0, 13, "")], "b: c\n")

    def test_compact(self):
        self.check("- - a # c\n  # d\n  - b\n", 3, [(2, 18, "")], "- - b\n")
        self.check("- - a\n  - b\n", 4, [(6, 12, "")], "- - a\n")
        self.check("- a: b\n  c: d\n", 3, [(2, 9, "")], "- c: d\n")
        self.check("? - a\n  - b\n: c: d\n  e: f\n", 3, [(2, 8, "")], "? - b\n: c: d\n  e: f\n")
        self.check("? - a\n  - b\n: c: d\n  e: f\n", 7, [(14, 21, "")], "? - a\n  - b\n: e: f\n")
        self.check("- ? a\n  : b\n  c: d\n", 3, [(2, 14, "")], "- c: d\n")
        self.check("- - - a\n    - b\n  - c\n", 4, [(4, 12, "")], "- - - b\n  - c\n")
        self.check("- - - a\n    - b\n  - c\n", 3, [(2, 18, "")], "- - c\n")

    def test_only_ones(self):
        self.check("- a\n", 2, [(0, 3, "[]")], "[]\n")
        self.check("a: b # c\n", 2, [(0, 4, "{}")], "{} # c\n")
        self.check("&x !t\n- a\n", 2, [(6, 9, "[]")], "&x !t\n[]\n")
        self.check("--- &x\na: b\n", 2, [(7, 11, "{}")], "--- &x\n{}\n")
        self.check("a:\n  - b\n", 4, [(5, 8, "[]")], "a:\n  []\n")
        self.check("a:\n- b\n", 4, [(3, 6, " []")], "a:\n []\n")
        self.check("a: &x\n- b\n", 4, [(6, 9, " []")], "a: &x\n []\n")
        self.check("?\n- a\n:\n- b\n", 3, [(2, 5, " []")], "?\n []\n:\n- b\n")
        self.check("?\n- a\n:\n- b\n", 6, [(8, 11, " []")], "?\n- a\n:\n []\n")
        self.check("- a:\n  - b\n", 5, [(7, 10, " []")], "- a:\n   []\n")
        self.check("a:\n  b: c\n", 4, [(5, 9, "{}")], "a:\n  {}\n")
        self.check("- - a\n", 3, [(2, 5, "[]")], "- []\n")
        self.check("- a: b\n- c\n", 3, [(2, 6, "{}")], "- {}\n- c\n")
        self.check("? - a\n: - b\n", 3, [(2, 5, "[]")], "? []\n: - b\n")
        self.check("? - a\n: - b\n", 6, [(8, 11, "[]")], "? - a\n: []\n")
        self.check("- |\n  a\n\n", 2, [(0, 7, "[]")], "[]\n\n")
        self.check("- | # c\n\n", 2, [(0, 3, "[]")], "[] # c\n\n")
        self.check("-\n", 2, [(0, 1, "[]")], "[]\n")
        self.check(":\n", 2, [(0, 1, "{}")], "{}\n")
        self.check("?\n", 2, [(0, 1, "{}")], "{}\n")
        self.check("? a # b\n: c", 2, [(0, 11, "{}")], "{}")
        self.check("&x a: b", 2, [(0, 7, "{}")], "{}")
        self.check("&x\n&y a: b", 2, [(3, 10, "{}")], "&x\n{}")

    def test_due(self):
        """A block collection that had no other entry is a flow one then, and keeps its properties."""
        self.assertEqual(bare(read("&x !t\n[]\n"))[1], ("sequence", "x", "!t", "flow"))
        for text, k in (("- &x !t\n  a: b\n- c\n", 3), ("k: &y\n- a\n", 4)):
            due = bare(read(text))
            due[k - 1] = due[k - 1][:3] + ("flow",)
            last = k + (1 if due[k - 1][0] == "mapping" else 0)
            self.assertEqual(bare(read(changed(text, dropped(text, k)))), due[:k] + due[last + 1:])

    def test_in_brackets(self):
        self.check("[a, b]", 2, [(1, 2, ""), (2, 3, "")], "[ b]")
        self.check("[a, b]", 3, [(4, 5, "")], "[a, ]")
        self.check("[a, b, ]", 3, [(4, 5, ""), (5, 6, "")], "[a,  ]")
        self.check("[a]", 2, [(1, 2, "")], "[]")
        self.check("{a: b, c: d}", 2, [(1, 5, ""), (5, 6, "")], "{ c: d}")
        self.check("{a: b, c: d}", 4, [(7, 11, "")], "{a: b, }")
        self.check("{? a : b , c}", 2, [(1, 8, ""), (9, 10, "")], "{  c}")
        self.check("{? , c}", 2, [(1, 2, ""), (3, 4, "")], "{  c}")
        self.check("{: a, c}", 2, [(1, 4, ""), (4, 5, "")], "{ c}")
        self.check("{a: , c: }", 4, [(6, 8, "")], "{a: ,  }")
        self.check("[a: b, c]", 2, [(1, 5, ""), (5, 6, "")], "[ c]")
        self.check("[? a : b, c]", 2, [(1, 8, ""), (8, 9, "")], "[ c]")
        self.check("[: a, c]", 2, [(1, 4, ""), (4, 5, "")], "[ c]")
        self.check("[a # b,\n\n # c,\n , d]", 2, [(1, 2, ""), (16, 17, "")], "[ # b,\n\n # c,\n  d]")
        self.check("&x # [\n [ # c\n  a\n , b]", 2, [(16, 17, ""), (19, 20, "")], "&x # [\n [ # c\n  \n  b]")
        self.check("[&x , *y]", 2, [(1, 3, ""), (4, 5, "")], "[  *y]")
        self.check("[[a], {b}]", 2, [(1, 4, ""), (4, 5, "")], "[ {b}]")
        self.check("[[a], {b}]", 5, [(6, 9, "")], "[[a], ]")
        self.check("- ['a\n\n  b', c]\n", 3, [(3, 11, ""), (11, 12, "")], "- [ c]\n")

    def test_open_ones(self):
        """The entry of a pair without brackets cannot go."""
        for text, k in (("[a: b]", 3), ("[? a : b]", 3), ("[: b]", 3), ("[{a: b}: c]", 3), ("[[]: {}]", 3), ("[&x a: b]", 3), ("[{a: b}: {c: d}]", 3)):
            self.assertEqual(read(text)[2][:4], ("mapping", None, None, "flow"))
            self.check_error(Spoilt, k, dropped, text, k)
            self.assertEqual(plain_edits.dropped(text, k), (Spoilt, k))
        self.check("[{a: b}: {c: d}]", 4, [(2, 6, "")], "[{}: {c: d}]")
        self.check("[{a: b}: {c: d}]", 8, [(10, 14, "")], "[{a: b}: {}]")
        self.check("[{a: b}]", 3, [(2, 6, "")], "[{}]")
        self.check("[&x {a: b}: c]", 4, [(5, 9, "")], "[&x {}: c]")
        self.check("[!t {a: b}]", 3, [(5, 9, "")], "[!t {}]")
        # What is open is told only behind what is needed.
        self.check_error(Needed, 9, dropped, "[&x a: b,*x]", 3)

    def test_needed(self):
        self.check_error(Needed, 9, dropped, "- &x a\n- *x\n", 2)
        self.check("- &x a\n- *x\n", 3, [(7, 12, "")], "- &x a\n")
        # An alias in the entry, or one that stands for another node.
        self.check("- [&x a, *x]\n- b\n", 2, [(0, 13, "")], "- b\n")
        self.check("- *x\n- &x a\n- &x b\n- *x\n", 3, [(5, 12, "")], "- *x\n- &x b\n- *x\n")
        self.check_error(Needed, 16, dropped, "- {a: [&x b]}\n- *x\n", 2)
        self.check_error(Needed, 16, dropped, "- {a: [&x b]}\n- *x\n", 3)
        self.check_error(Needed, 16, dropped, "- {a: [&x b]}\n- *x\n- *x\n", 5)
        self.check_error(Needed, 8, dropped, "&x a: b\n*x : c\n", 2)
        # The node of a collection around is not in the entry.
        self.check("&x\n- *x\n- a\n", 2, [(3, 8, "")], "&x\n- a\n")
        # Other documents do not count.
        self.check("- &x a\n- b\n---\n- *x\n", 2, [(0, 7, "")], "- b\n---\n- *x\n")
        # The first one is told.
        self.check_error(Needed, 13, dropped, "- &x a\n- [b, *x, *x]\n", 2)

    def test_spoilt(self):
        # The empty line would be the scalar's.
        self.check_error(Spoilt, 3, dropped, "- |+\n  a\n- b\n\n- c\n", 3)
        # The value would come to another key.
        self.check_error(Spoilt, 4, dropped, "? a\nb: c\n: d\n", 4)
        # A mark would begin a line.
        self.check_error(Spoilt, 2, dropped, "[a\n,--- b]", 2)
        self.assertEqual(plain_edits.dropped("[a\n,--- b]", 2), (Spoilt, 2))

    def test_no_entry(self):
        text = "- a: b\n- [*x, {c: d}]\n- &x\n  - e\n"
        begins = [2, 3, 6, 7, 8, 9, 13, 14]
        for k in range(-2, len(read(text)) + 3):
            if k in begins:
                self.assertIsInstance(dropped(text, k), list)
            else:
                self.check_error(NoEntry, k, dropped, text, k)
        for thing in strange.NO_WHOLE + strange.LISTS + [10 ** 20]:
            with self.assertRaises(NoEntry) as caught:
                dropped("- a\n- b\n- c\n", thing)
            self.assertIs(caught.exception.k, thing)
        self.check_error(NoEntry, 1, dropped, "a", 1)
        self.check_error(NoEntry, 0, dropped, "", 0)


class Put(Edits):
    def check(self, text, k, at, rows, change, new):
        self.assertEqual(put(text, k, at, rows), [change])
        self.assertEqual(put(text, k, at, tuple(rows)), [change])
        self.assertEqual(changed(text, [change]), new)
        self.assertEqual(plain_edits.put(text, k, at, rows), [change])
        self.assertEqual(sorted(bare(read(new)), key=repr), sorted(bare(read(text)) + list(rows), key=repr))

    def test_lines(self):
        text = "- a # c\n# d\n- b\n# e\n"
        self.check(text, 1, 0, [N], (0, 0, "- n\n"), "- n\n" + text)
        self.check(text, 1, 1, [N], (12, 12, "- n\n"), "- a # c\n# d\n- n\n- b\n# e\n")
        self.check(text, 1, 2, [N], (16, 16, "- n\n"), "- a # c\n# d\n- b\n- n\n# e\n")
        text = "a: b\n? c\n: d\n"
        self.check(text, 1, 0, [N, VOID], (0, 0, "n:\n"), "n:\n" + text)
        self.check(text, 1, 1, [N, A], (5, 5, "n: a\n"), "a: b\nn: a\n? c\n: d\n")
        self.check(text, 1, 2, [VOID, plain("", "x")], (13, 13, ": &x\n"), text + ": &x\n")

    def test_columns(self):
        self.check("  - a\n", 1, 0, [N], (0, 0, "  - n\n"), "  - n\n  - a\n")
        self.check("a:\n     - b\n", 3, 1, [N], (12, 12, "     - n\n"), "a:\n     - b\n     - n\n")
        self.check("a:\n- b\n", 3, 1, [N], (7, 7, "- n\n"), "a:\n- b\n- n\n")
        self.check("a:\n   b: c\n", 3, 0, [N, ("sequence", None, None, "block"), A, CLOSE], (3, 3, "   n:\n     - a\n"), "a:\n   n:\n     - a\n   b: c\n")
        self.check("- - a\n- b\n", 2, 1, [("scalar", None, None, "literal", " a\n")], (6, 6, "  - |2\n     a\n"), "- - a\n  - |2\n     a\n- b\n")
        self.check("   - a\n", 1, 1, [plain("a\nb")], (7, 7, "   - a\n\n     b\n"), "   - a\n   - a\n\n     b\n")
        self.check(" a: b\n", 1, 1, [plain("--- c"), A], (6, 6, " --- c: a\n"), " a: b\n --- c: a\n")
        self.check("a: b\n", 1, 1, [plain("--- c"), A], (5, 5, "? --- c\n: a\n"), "a: b\n? --- c\n: a\n")

    def test_without_a_line_feed(self):
        self.check("- a", 1, 1, [N], (3, 3, "\n- n\n"), "- a\n- n\n")
        self.check("- a", 1, 0, [N], (0, 0, "- n\n"), "- n\n- a")
        self.check("a: b # c", 1, 1, [N, A], (8, 8, "\nn: a\n"), "a: b # c\nn: a\n")
        self.check("- - a", 2, 1, [N], (5, 5, "\n  - n\n"), "- - a\n  - n\n")
        self.check("a:", 1, 1, [VOID, VOID], (2, 2, "\n:\n"), "a:\n:\n")

    def test_block_scalars(self):
        self.check("- |\n  a\n\n", 1, 1, [N], (9, 9, "- n\n"), "- |\n  a\n\n- n\n")
        self.check("- |+\n  a\n\n\n- b\n", 1, 1, [N], (11, 11, "- n\n"), "- |+\n  a\n\n\n- n\n- b\n")
        self.check("- |-\n  a\n ", 1, 1, [N], (10, 10, "\n- n\n"), "- |-\n  a\n \n- n\n")
        self.check("- a: |\n\n\n    b\n\n- c\n", 2, 1, [N, A], (16, 16, "  n: a\n"), "- a: |\n\n\n    b\n\n  n: a\n- c\n")
        # The line feed would be the scalar's.
        self.check_error(Spoilt, 1, put, "- |\n  a", 1, 1, [N])
        self.check_error(Spoilt, 1, put, "- |+\n  a\n ", 1, 1, [N])
        self.check("- |-\n  a", 1, 1, [N], (8, 8, "\n- n\n"), "- |-\n  a\n- n\n")
        # The empty line would be that of the new scalar.
        self.check_error(Spoilt, 1, put, "- a\n\n", 1, 1, [("scalar", None, None, "literal", "a\n\n")])

    def test_compact(self):
        self.check("- - a\n  - b\n", 2, 0, [N], (2, 2, "- n\n  "), "- - n\n  - a\n  - b\n")
        self.check("- a: b\n", 2, 0, [N, A], (2, 2, "n: a\n  "), "- n: a\n  a: b\n")
        self.check("- - - a\n", 3, 0, [plain("a\nb")], (4, 4, "- a\n\n      b\n    "), "- - - a\n\n      b\n    - a\n")
        self.check("? - a\n:   - b\n", 5, 0, [N], (10, 10, "- n\n    "), "? - a\n:   - n\n    - b\n")
        self.check("- - a\n", 2, 0, [("sequence", "x", None, "block"), A, CLOSE], (2, 2, "- &x\n    - a\n  "), "- - &x\n    - a\n  - a\n")
        self.check("- - a\n", 2, 0, [("mapping", None, None, "block"), A, B, CLOSE], (2, 2, "- a: b\n  "), "- - a: b\n  - a\n")
        self.check("- ? a\n", 2, 0, [("sequence", None, None, "block"), A, CLOSE, B], (2, 2, "? - a\n  : b\n  "), "- ? - a\n  : b\n  ? a\n")

    def test_in_brackets(self):
        self.check("[]", 1, 0, [N], (1, 1, "n"), "[n]")
        self.check("{ }", 1, 0, [N, A], (1, 1, "n: a"), "{n: a }")
        self.check("&x # [\n [ ]", 1, 0, [N], (9, 9, "n"), "&x # [\n [n ]")
        self.check("[a]", 1, 0, [N], (1, 1, "n, "), "[n, a]")
        self.check("[a]", 1, 1, [N], (2, 2, ", n"), "[a, n]")
        self.check("[ a , b , ]", 1, 1, [N], (6, 6, "n, "), "[ a , n, b , ]")
        self.check("[ a , b , ]", 1, 2, [N], (7, 7, ", n"), "[ a , b, n , ]")
        self.check("[a # ,\n , b]", 1, 1, [N], (10, 10, "n, "), "[a # ,\n , n, b]")
        self.check("{a: b, ? c }", 1, 1, [N, A], (7, 7, "n: a, "), "{a: b, n: a, ? c }")
        self.check("{a: b, ? c }", 1, 2, [N, A], (10, 10, ", n: a"), "{a: b, ? c, n: a }")
        self.check("{a: }", 1, 1, [VOID, VOID], (3, 3, ", :"), "{a:, : }")
        self.check("{: a}", 1, 0, [("alias", "x"), plain("", "y")], (1, 1, "*x : &y, "), "{*x : &y, : a}")
        self.check("[a: b]", 1, 0, [("mapping", None, None, "flow"), A, B, CLOSE], (1, 1, "{a: b}, "), "[{a: b}, a: b]")
        self.check("[a: b]", 1, 1, [("sequence", "x", "!t", "flow"), CLOSE], (5, 5, ", &x !t []"), "[a: b, &x !t []]")
        self.check("a: {b: c}\n", 3, 1, [("scalar", None, None, "double", "x\ny"), ("scalar", None, None, "single", "z")], (8, 8, ", \"x\\ny\": 'z'"), "a: {b: c, \"x\\ny\": 'z'}\n")
        self.check("[[a], b]: c\n", 3, 1, [N], (3, 3, ", n"), "[[a, n], b]: c\n")

    def test_open_ones(self):
        for text in ("[a: b]", "[? a : b]", "[: b]", "[{a: b}: c]", "[{}: {}]"):
            for at in (0, 1):
                self.check_error(Spoilt, 2, put, text, 2, at, [N, A])
            self.check_error(NoPlace, 2, put, text, 2, 2, [N, A])
            self.check_error(NoEvents, 1, put, text, 2, 1, [N])
        self.check_error(Captured, 7, put, "[a: b, *x]", 2, 1, [plain("n", "x"), A])
        self.check("[{}: {}]", 3, 0, [N, A], (2, 2, "n: a"), "[{n: a}: {}]")

    def test_spoilt(self):
        self.check_error(Spoilt, 1, put, "{? }", 1, 1, [N, A])
        self.check_error(Spoilt, 1, put, "? a\n", 1, 1, [VOID, A])

    def test_no_collection(self):
        text = "- a: &x b\n- [*x, {}]\n"
        heads = [index for index, event in enumerate(read(text)) if event[0] in ("sequence", "mapping")]
        for k in range(-2, len(read(text)) + 3):
            if k not in heads:
                self.check_error(NoCollection, k, put, text, k, None, None)
        for thing in strange.NO_WHOLE + strange.LISTS + [10 ** 20]:
            with self.assertRaises(NoCollection) as caught:
                put("- a\n- b\n", thing, None, None)
            self.assertIs(caught.exception.k, thing)

    def test_no_place(self):
        for text, most in (("[]", 0), ("[a]", 1), ("- a\n- b\n", 2), ("a: b\nc: d\n", 2), ("{a, b, c}", 3)):
            rows = [N] if text[0] in "[-" else [N, A]
            for at in range(-2, most + 3):
                if 0 <= at <= most:
                    self.assertIsInstance(put(text, 1, at, rows), list)
                else:
                    self.check_error(NoPlace, at, put, text, 1, at, None)
            for thing in strange.NO_WHOLE + strange.LISTS + [10 ** 20, -10 ** 20]:
                with self.assertRaises(NoPlace) as caught:
                    put(text, 1, thing, None)
                self.assertIs(caught.exception.number, thing)

    def test_no_events(self):
        for text, kind in (("[]", "flow sequence"), ("{}", "flow mapping"), ("- a\n", "block sequence"), ("a: b\n", "block mapping")):
            for thing in strange.NO_LISTS:
                self.check_error(NoEvents, -1, put, text, 1, 0, thing)
            for thing in strange.ALL:
                self.check_error(NoEvents, 0, put, text, 1, 0, [thing])
            self.check_error(NoEvents, 0, put, text, 1, 0, [])
            self.check_error(NoEvents, 0, put, text, 1, 0, ())
            for row in (("document", True), ("over", False), CLOSE):
                self.check_error(NoEvents, 0, put, text, 1, 0, [row])
                self.check_error(NoEvents, 1, put, text, 1, 0, [N, row])
            if kind.endswith("sequence"):
                self.check_error(NoEvents, 1, put, text, 1, 0, [N, A])
                self.check_error(NoEvents, 3, put, text, 1, 0, [("sequence", None, None, "flow"), A, B])
            else:
                self.check_error(NoEvents, 1, put, text, 1, 0, [N])
                self.check_error(NoEvents, 2, put, text, 1, 0, [N, A, B])
                self.check_error(NoEvents, 2, put, text, 1, 0, [N, A, CLOSE])
        self.check_error(NoEvents, 0, put, "[]", 1, 0, [VOID])
        self.check_error(NoEvents, 0, put, "[]", 1, 0, [("sequence", None, None, "block"), A, CLOSE])
        self.check_error(NoEvents, 1, put, "{}", 1, 0, [A, ("scalar", None, None, "literal", "a")])
        self.check_error(NoEvents, 0, put, "[]", 1, 0, [plain("a,b")])
        self.check_error(NoEvents, 1, put, "- a\n", 1, 0, [("sequence", None, None, "block"), CLOSE])
        self.check_error(NoEvents, 0, put, "a: b\n", 1, 0, [plain("a:"), A])

    def test_line_feeds_in_brackets(self):
        lines, quoted, escaped = plain("a\nb"), ("scalar", None, None, "single", "a\n\nb"), ("scalar", None, None, "double", "a\nb")
        self.check_error(NoEvents, 0, put, "[]", 1, 0, [lines])
        self.check_error(NoEvents, 1, put, "{}", 1, 0, [escaped, quoted])
        self.check_error(NoEvents, 3, put, "[]", 1, 0, [("mapping", None, None, "flow"), A, escaped, quoted, lines, CLOSE])
        self.check_error(NoEvents, 0, put, "[a: b]", 2, 0, [lines, A])
        # What is no entry at all is told first.
        self.check_error(NoEvents, 1, put, "[]", 1, 0, [lines, A])
        self.check_error(NoEvents, 2, put, "{}", 1, 0, [A, lines, A])
        self.check("[]", 1, 0, [escaped], (1, 1, "\"a\\nb\""), "[\"a\\nb\"]")
        self.check("- []\n", 1, 1, [("sequence", None, None, "flow"), lines, CLOSE], (5, 5, "- [a\n\n  b]\n"), "- []\n- [a\n\n  b]\n")

    def test_captured(self):
        self.check_error(Captured, 9, put, "- &x a\n- *x\n", 1, 1, [plain("n", "x")])
        self.check("- &x a\n- *x\n", 1, 0, [plain("n", "x")], (0, 0, "- &x n\n"), "- &x n\n- &x a\n- *x\n")
        self.check("- &x a\n- *x\n", 1, 2, [plain("n", "x")], (12, 12, "- &x n\n"), "- &x a\n- *x\n- &x n\n")
        self.check("- &x a\n- *x\n", 1, 1, [plain("n", "y")], (7, 7, "- &y n\n"), "- &x a\n- &y n\n- *x\n")
        # An alias that stands for none, or for what is around.
        self.check_error(Captured, 2, put, "- *x\n", 1, 0, [plain("n", "x")])
        self.check_error(Captured, 5, put, "&x\n- *x\n", 1, 0, [plain("n", "x")])
        # Deep in the rows, and as far as the end of the document.
        rows = [("mapping", None, None, "flow"), A, ("sequence", "x", None, "flow"), CLOSE, CLOSE]
        self.check_error(Captured, 23, put, "- a\n- [b]\n- {c: [[d]], *x : e}\n", 1, 0, rows)
        self.check_error(Captured, 11, put, "a: [b]\nc: [*x]\n", 3, 1, rows)
        self.check("a: [b]\n--- *x\n", 3, 1, rows, (5, 5, ", {a: &x []}"), "a: [b, {a: &x []}]\n--- *x\n")
        # The first one is told.
        self.check_error(Captured, 6, put, "- [a, *x, *x]\n- *x\n", 2, 0, [plain("n", "x")])
        # Aliases in the rows stand for what they can.
        self.check("- &x a\n- b\n", 1, 1, [("alias", "x")], (7, 7, "- *x\n"), "- &x a\n- *x\n- b\n")
        self.check("- b\n", 1, 0, [("alias", "z")], (0, 0, "- *z\n"), "- *z\n- b\n")


class Facts(Edits):
    def texts(self, chance, many):
        """Streams by chance: of drawn rows and of pieces, with comments and empty lines put in."""
        found = []
        while len(found) < many:
            way = chance.random()
            text = pieces_text(chance) if way < 0.25 else rows_text(chance) if way < 0.5 else events_text(plain_writing.drawn_rows(chance, chance.choice([1, 2, 3]), 2))
            for _ in range(chance.randrange(4)):
                place = chance.randrange(len(text) + 1)
                other = text[:place] + chance.choice([" # c\n", "\n", "\n\n", "# [d\n", " ", "  \n", "  ", "\n   ", ", ", "&x ", "!t "]) + text[place:]
                text = other if refused(other) is None else text
            if chance.random() < 0.3:
                text = text.rstrip("\n")
            if refused(text) is None:
                found.append(text)
        return found

    def test_as_the_rules_tell(self):
        chance = random.Random(50)
        done = {}
        for text in self.texts(chance, 500):
            events = read(text)
            for k in range(-1, len(events) + 1):
                kind, form = "sequence", "block"
                if 0 <= k < len(events) and events[k][0] in ("sequence", "mapping"):
                    kind, form = events[k][0], events[k][3]
                if chance.random() < 0.1:
                    kind, form = chance.choice(["sequence", "mapping"]), chance.choice(["block", "flow"])
                rows = plain_writing.drawn_entry(chance, kind, form, chance.choice([0, 0, 1, 2]))
                rows = rows[:-1] if chance.random() < 0.05 else rows
                name = chance.choice(["x", "y", "z", "a1", "a,b", "", ":", "b:"])
                style, value = chance.choice(["plain", "plain", "single", "double", "literal"]), chance.choice(plain_writing.VALUES)
                for what, told in (("dropped", ()), ("put", (chance.randrange(-1, 4), rows)), ("renamed", (name,)), ("rewritten", (style, value))):
                    expected = getattr(plain_edits, what)(text, k, *told)
                    self.assertEqual(outcome(getattr(edits, what), text, k, *told), expected, (text, what, k, told))
                    if type(expected) is list:
                        done[what] = done.get(what, 0) + 1
        self.assertTrue(all(done[what] > 100 for what in ("dropped", "put", "renamed", "rewritten")), done)

    def test_the_rest_stays(self):
        """All signs outside of the changed stretches stay, and what is changed is ascending."""
        chance = random.Random(51)
        for text in self.texts(chance, 300):
            for k in range(len(read(text))):
                for changes in (outcome(dropped, text, k), outcome(renamed, text, k, "new"), outcome(rewritten, text, k, "double", "new")):
                    if type(changes) is list:
                        new = changed(text, changes)
                        moved = 0
                        place = 0
                        for start, end, part in changes:
                            self.assertLessEqual(place, start)
                            self.assertEqual(new[place + moved:start + moved], text[place:start])
                            moved += len(part) - (end - start)
                            place = end
                        self.assertEqual(new[place + moved:], text[place:])

    def test_dropped_and_put_again(self):
        chance = random.Random(52)
        many = 0
        for text in self.texts(chance, 500):
            events = bare(read(text))
            nodes = plain_edits.nodes_of(plain_edits.events_of(text))
            for k in range(len(events)):
                changes = outcome(dropped, text, k)
                if type(changes) is not list:
                    continue
                outer = nodes[k].outer
                entries = outer.entries()
                number = [entry[0].first for entry in entries].index(k)
                if len(entries) == 1:
                    continue
                new = changed(text, changes)
                again = outcome(put, new, outer.first, number, events[k:entries[number][-1].last + 1])
                if type(again) is list:
                    self.assertEqual(bare(read(changed(new, again))), events)
                    many += 1
        self.assertGreater(many, 300)

    def test_renamed_and_back(self):
        chance = random.Random(53)
        many = 0
        for text in self.texts(chance, 400):
            for k, event in enumerate(read(text)):
                name = chance.choice(["x", "new", ":", "y"])
                changes = outcome(renamed, text, k, name)
                if type(changes) is list:
                    new = changed(text, changes)
                    self.assertEqual(changed(new, renamed(new, k, event[1])), text)
                    many += 1
        self.assertGreater(many, 100)


class Errors(Edits):
    WORKS = [(renamed, ("y",)), (rewritten, ("plain", "b")), (dropped, ()), (put, (0, [N]))]

    def test_no_streams(self):
        for work, told in self.WORKS:
            for text in ("[", "a: b: c", "a\n\t", "- a\nb"):
                self.check_error(Refused, refused(text), work, text, None, *told)
            for thing in NO_TEXTS:
                self.check_error(Refused, -1, work, thing, 1, *told)

    def test_order(self):
        """The text, then k, then the others in their order, then what would be spoilt."""
        self.check_error(Refused, 1, renamed, "[", None, None)
        self.check_error(NoAnchor, 0, renamed, "- &x a\n- *y\n", 0, None)
        self.check_error(NoName, "", renamed, "- &x a\n- *y\n", 2, "")
        self.check_error(Captured, 9, renamed, "- &x a\n- *y\n", 2, "y")
        self.check_error(NoScalar, 0, rewritten, "a", 0, None, None)
        self.check_error(NoStyle, "style", rewritten, "a", 1, None, None)
        self.check_error(NoValue, None, rewritten, "a", 1, "plain", None)
        self.check_error(Spoilt, 1, rewritten, "a", 1, "plain", "...")
        self.check_error(NoEntry, 0, dropped, "[&x a: b, *x]", 0)
        self.check_error(Needed, 10, dropped, "[&x a: b, *x]", 3)
        self.check_error(Spoilt, 3, dropped, "[&x a: b, *y]", 3)
        self.check_error(NoCollection, 0, put, "[a: b, *x]", 0, 9, None)
        self.check_error(NoPlace, 9, put, "[a: b, *x]", 2, 9, None)
        self.check_error(NoEvents, -1, put, "[a: b, *x]", 2, 0, None)
        self.check_error(NoEvents, 0, put, "[a: b, *x]", 2, 0, [plain("a\nb", "x"), A])
        self.check_error(Captured, 7, put, "[a: b, *x]", 2, 0, [plain("n", "x"), A])
        self.check_error(Spoilt, 2, put, "[a: b, *x]", 2, 0, [plain("n", "y"), A])

    def test_arguments(self):
        self.assertEqual(renamed(text="&x a", k=1, name="y"), [(1, 2, "y")])
        self.assertEqual(rewritten(text="a", k=1, style="single", value="b"), [(0, 1, "'b'")])
        self.assertEqual(dropped(text="- a\n- b\n", k=2), [(0, 4, "")])
        rows = [N]
        self.assertEqual(put(text="- a\n", k=1, at=0, rows=rows), [(0, 0, "- n\n")])
        self.assertEqual(rows, [N])

    def test_long_texts(self):
        """Each change of texts of 3,000 signs in a short time."""
        texts = ["- &x a\n" + "- *x\n" * 590, "[&x a, " + "*x, " * 740 + "]", "&x a: b\n" + "? *x\n: c\n" * 320, "- " * 29 + "&x a\n" + (" " * 56 + "- *x\n") * 40]
        for text in texts:
            self.assertLessEqual(len(text), 3000)
            k = index_of(text, "x")
            top = max(index for index, event in enumerate(read(text)) if event[0] in ("sequence", "mapping"))
            last = [index for index, event in enumerate(read(text)) if event[0] == "alias"][-1]
            rows = [N] if read(text)[top][0] == "sequence" else [N, A]
            begun = time.perf_counter()
            self.assertIsInstance(renamed(text, k, "yy"), list)
            self.assertIsInstance(rewritten(text, k, "double", "b\nc"), list)
            self.assertIsInstance(dropped(text, last), list)
            self.assertIsInstance(put(text, top, 1, rows), list)
            self.assertLess(time.perf_counter() - begun, 1.0)


if __name__ == "__main__":
    unittest.main()
