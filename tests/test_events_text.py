"""Bare events and their texts."""

import itertools
import random
import time
import unittest

from anchorpages.errors import NoEvents
from anchorpages.reader import read
from anchorpages.rows import bare
from anchorpages.writers import events_text
from tests import plain_writing as plain
from tests import strange
from tests.test_bounds import LONG
from tests.test_rules import pieces_text, rows_text

OPEN = ("document", False)
MARKED = ("document", True)
OVER = ("over", False)
ENDED = ("over", True)
CLOSE = ("close",)
SEQUENCE = ("sequence", None, None, "block")
MAPPING = ("mapping", None, None, "block")
LIST = ("sequence", None, None, "flow")
TABLE = ("mapping", None, None, "flow")
VOID = ("scalar", None, None, "plain", "")


def plain_scalar(value, anchor=None, tag=None):
    return ("scalar", anchor, tag, "plain", value)


A, B, C = [plain_scalar(value) for value in "abc"]

# Nodes of each kind, each with its text as a single one, or None for a block collection.
SINGLE = [
    ([A], "a"), ([plain_scalar("a", "x")], "&x a"), ([plain_scalar("a", None, "!t")], "!t a"), ([plain_scalar("a", "x", "!")], "&x ! a"),
    ([VOID], ""), ([plain_scalar("", "x")], "&x"), ([plain_scalar("", None, "!!t")], "!!t"), ([plain_scalar("", "x", "!t")], "&x !t"),
    ([("scalar", None, None, "single", "it's")], "'it''s'"), ([("scalar", "x", "!t", "single", "")], "&x !t ''"),
    ([("scalar", None, None, "double", "a\n\"\\")], "\"a\\n\\\"\\\\\""), ([("scalar", "x", None, "double", "")], "&x \"\""),
    ([("alias", "x")], "*x"),
    ([LIST, CLOSE], "[]"), ([TABLE, CLOSE], "{}"), ([("sequence", "x", "!t", "flow"), CLOSE], "&x !t []"), ([("mapping", None, "!", "flow"), CLOSE], "! {}"),
    ([LIST, A, ("alias", "x"), plain_scalar("", "x"), LIST, CLOSE, CLOSE], "[a, *x, &x, []]"),
    ([TABLE, A, B, VOID, VOID, ("alias", "x"), VOID, plain_scalar("", "x", "!t"), C, CLOSE], "{a: b, :, *x :, &x !t : c}"),
    ([TABLE, ("scalar", None, None, "single", "a"), VOID, LIST, CLOSE, TABLE, CLOSE, CLOSE], "{'a':, []: {}}"),
    ([plain_scalar("--- a")], "--- a"), ([plain_scalar("...")], "..."), ([plain_scalar("--- a", "x")], "&x --- a"),
]


def document(rows, marked=False, ended=False):
    return [("document", marked)] + rows + [("over", ended)]


class Texts(unittest.TestCase):
    def check(self, rows, text):
        self.assertEqual(events_text(rows), text)
        self.assertEqual(events_text(tuple(rows)), text)
        self.assertEqual(plain.stream_text(rows), text)
        self.assertEqual(bare(read(text)), list(rows))

    def test_no_documents(self):
        self.check([], "")

    def test_marks(self):
        self.check([OPEN, A, OVER], "a\n")
        self.check([OPEN, A, ENDED], "a\n...\n")
        self.check([MARKED, A, OVER], "--- a\n")
        self.check([MARKED, VOID, ENDED], "---\n...\n")
        self.check([OPEN, A, OVER, MARKED, B, OVER, MARKED, VOID, OVER], "a\n--- b\n---\n")
        self.check([OPEN, A, ENDED, OPEN, B, ENDED, MARKED, C, ENDED, OPEN, A, OVER], "a\n...\nb\n...\n--- c\n...\na\n")
        self.check([MARKED, SEQUENCE, A, CLOSE, ENDED, OPEN, MAPPING, A, B, CLOSE, OVER], "---\n- a\n...\na: b\n")
        self.check([MARKED, ("mapping", "x", "!t", "block"), A, B, CLOSE, OVER], "--- &x !t\na: b\n")
        self.check([OPEN, ("sequence", None, "!t", "block"), A, CLOSE, OVER], "!t\n- a\n")

    def test_what_looks_like_a_mark(self):
        for value in ("---", "...", "--- a", "... a"):
            self.check([OPEN, plain_scalar(value), OVER], " " + value + "\n")
            self.check([MARKED, plain_scalar(value), OVER], "--- " + value + "\n")
            self.check([OPEN, plain_scalar(value, "x"), OVER], "&x " + value + "\n")
            self.check([OPEN, ("scalar", None, None, "single", value), OVER], "'" + value + "'\n")
            self.check([OPEN, SEQUENCE, plain_scalar(value), CLOSE, OVER], "- " + value + "\n")
            self.check([OPEN, LIST, plain_scalar(value), CLOSE, OVER], "[" + value + "]\n")
        self.check([OPEN, plain_scalar("---a"), OVER], "---a\n")
        self.check([OPEN, plain_scalar("---\na"), OVER], " ---\n\n a\n")
        self.check([OPEN, plain_scalar("a\n--- b"), OVER], "a\n\n --- b\n")
        self.check([OPEN, ("scalar", None, None, "literal", "---\n...\n"), OVER], "|\n ---\n ...\n")

    def test_keys_that_look_like_marks(self):
        self.check([OPEN, MAPPING, plain_scalar("---"), A, plain_scalar("..."), B, CLOSE, OVER], "---: a\n...: b\n")
        self.check([OPEN, MAPPING, plain_scalar("--- a"), A, plain_scalar("... b"), B, CLOSE, OVER], "? --- a\n: a\n? ... b\n: b\n")
        self.check([OPEN, MAPPING, plain_scalar("--- a", "x"), A, CLOSE, OVER], "&x --- a: a\n")
        self.check([OPEN, SEQUENCE, MAPPING, plain_scalar("--- a"), A, plain_scalar("... b"), B, CLOSE, CLOSE, OVER], "- --- a: a\n  ... b: b\n")
        self.check([OPEN, MAPPING, A, MAPPING, plain_scalar("--- a"), B, CLOSE, CLOSE, OVER], "a:\n  --- a: b\n")

    def test_single_nodes_in_each_place(self):
        for rows, text in SINGLE:
            blank = " " + text if text else ""
            loose = " :" if text[:1] in ("*", "&", "!") and rows[0][0] in ("scalar", "alias") and rows[0][-1] in ("x", "") and text[-1] not in "'\"" else ":"
            with self.subTest(text):
                self.check([MARKED] + rows + [OVER], "---" + blank + "\n")
                if text:
                    self.check([OPEN] + rows + [OVER], (" " if text[:4] in ("--- ", "...") else "") + text + "\n")
                    self.check([OPEN, LIST] + rows + [B] + rows + [CLOSE, OVER], "[" + text + ", b, " + text + "]\n")
                self.check([OPEN, SEQUENCE] + rows + rows + [CLOSE, OVER], ("-" + blank + "\n") * 2)
                self.check([OPEN, TABLE] + rows + rows + [CLOSE, OVER], "{" + text + loose + blank + "}\n")
                self.check([OPEN, MAPPING, A] + rows + [CLOSE, OVER], "a:" + blank + "\n")
                if text == "--- a":
                    self.check([OPEN, MAPPING] + rows + rows + [CLOSE, OVER], "? --- a\n: --- a\n")
                else:
                    self.check([OPEN, MAPPING] + rows + rows + [CLOSE, OVER], text + loose + blank + "\n")
                self.check([OPEN, MAPPING, SEQUENCE] + rows + [CLOSE, SEQUENCE] + rows + [CLOSE, CLOSE, OVER], "? -" + blank + "\n: -" + blank + "\n")

    def test_block_collections_in_each_place(self):
        for inner, first, later in (([SEQUENCE, A, B, CLOSE], "- a", "- b"), ([MAPPING, A, B, B, C, CLOSE], "a: b", "b: c")):
            self.check([OPEN] + inner + [OVER], first + "\n" + later + "\n")
            self.check([MARKED] + inner + [OVER], "---\n" + first + "\n" + later + "\n")
            self.check([OPEN, SEQUENCE] + inner + [CLOSE, OVER], "- " + first + "\n  " + later + "\n")
            self.check([OPEN, MAPPING, A] + inner + [CLOSE, OVER], "a:\n  " + first + "\n  " + later + "\n")
            self.check([OPEN, MAPPING] + inner + [A, CLOSE, OVER], "? " + first + "\n  " + later + "\n: a\n")
            self.check([OPEN, MAPPING] + inner + inner + [CLOSE, OVER], "? " + first + "\n  " + later + "\n: " + first + "\n  " + later + "\n")
            self.check([OPEN, SEQUENCE, SEQUENCE] + inner + [CLOSE, CLOSE, OVER], "- - " + first + "\n    " + later + "\n")
            for dressed, text in (((inner[0][0], "x", None, "block"), " &x"), ((inner[0][0], None, "!t", "block"), " !t"), ((inner[0][0], "x", "!", "block"), " &x !")):
                rows = [dressed] + inner[1:]
                self.check([OPEN] + rows + [OVER], text[1:] + "\n" + first + "\n" + later + "\n")
                self.check([MARKED] + rows + [OVER], "---" + text + "\n" + first + "\n" + later + "\n")
                self.check([OPEN, SEQUENCE] + rows + [CLOSE, OVER], "-" + text + "\n  " + first + "\n  " + later + "\n")
                self.check([OPEN, MAPPING, A] + rows + [CLOSE, OVER], "a:" + text + "\n  " + first + "\n  " + later + "\n")
                self.check([OPEN, MAPPING] + rows + rows + [CLOSE, OVER], ("?" + text + "\n  " + first + "\n  " + later + "\n:" + text + "\n  " + first + "\n  " + later + "\n"))

    def test_columns(self):
        rows = [OPEN, SEQUENCE, MAPPING, A, SEQUENCE, SEQUENCE, MAPPING, SEQUENCE, A, CLOSE, MAPPING, B, C, CLOSE, CLOSE, CLOSE, CLOSE, CLOSE, CLOSE, OVER]
        self.check(rows, "- a:\n    - - ? - a\n        : b: c\n")

    def test_block_scalars(self):
        literal = ("scalar", None, None, "literal", "a\n\nb\n")
        folded = ("scalar", "x", "!t", "folded", "a\nb")
        self.check([OPEN, literal, OVER], "|\n a\n\n b\n")
        self.check([MARKED, folded, OVER], "--- &x !t >-\n a\n\n b\n")
        self.check([OPEN, SEQUENCE, literal, folded, CLOSE, OVER], "- |\n  a\n\n  b\n- &x !t >-\n  a\n\n  b\n")
        self.check([OPEN, MAPPING, literal, folded, A, literal, CLOSE, OVER], "? |\n  a\n\n  b\n: &x !t >-\n  a\n\n  b\na: |\n  a\n\n  b\n")
        self.check([OPEN, MAPPING, A, SEQUENCE, literal, CLOSE, CLOSE, OVER], "a:\n  - |\n    a\n\n    b\n")
        kept = ("scalar", None, None, "literal", "a\n\n\n")
        self.check([OPEN, SEQUENCE, kept, kept, CLOSE, ENDED, OPEN, kept, OVER], "- |+\n  a\n\n\n- |+\n  a\n\n\n...\n|+\n a\n\n\n")
        feeds = ("scalar", None, None, "folded", "\n\n")
        self.check([OPEN, MAPPING, feeds, ("scalar", None, None, "literal", ""), CLOSE, OVER], "? >+\n\n\n: |-\n")

    def test_digits(self):
        moved = ("scalar", None, None, "literal", " a\n")
        self.check([OPEN, moved, OVER], "|2\n  a\n")
        self.check([OPEN, SEQUENCE, moved, SEQUENCE, moved, CLOSE, CLOSE, OVER], "- |2\n   a\n- - |2\n     a\n")
        self.check([OPEN, MAPPING, moved, ("scalar", None, None, "folded", "\n b"), CLOSE, OVER], "? |2\n   a\n: >2-\n\n   b\n")

    def test_further_lines(self):
        lines, quoted = plain_scalar("a\nb"), ("scalar", None, None, "single", "a\n\nb")
        self.check([OPEN, lines, OVER], "a\n\n b\n")
        self.check([MARKED, quoted, OVER], "--- 'a\n\n\n b'\n")
        self.check([OPEN, SEQUENCE, lines, MAPPING, A, quoted, CLOSE, CLOSE, OVER], "- a\n\n  b\n- a: 'a\n\n\n    b'\n")
        self.check([OPEN, MAPPING, lines, lines, CLOSE, OVER], "? a\n\n  b\n: a\n\n  b\n")
        self.check([OPEN, LIST, lines, LIST, TABLE, lines, quoted, CLOSE, CLOSE, CLOSE, OVER], "[a\n\n b, [{a\n\n b: 'a\n\n\n b'}]]\n")
        self.check([OPEN, SEQUENCE, SEQUENCE, LIST, lines, CLOSE, CLOSE, CLOSE, OVER], "- - [a\n\n    b]\n")
        self.check([OPEN, MAPPING, LIST, lines, CLOSE, A, LIST, A, CLOSE, B, CLOSE, OVER], "? [a\n\n  b]\n: a\n[a]: b\n")
        self.check([OPEN, MAPPING, LIST, ("scalar", None, None, "double", "a\nb"), CLOSE, A, CLOSE, OVER], "[\"a\\nb\"]: a\n")

    def test_all_small_trees(self):
        leaves = [A, VOID, ("alias", "x"), plain_scalar("", "x"), ("scalar", None, None, "literal", "a\n"), plain_scalar("a\nb"), plain_scalar("--- a"),
                  ("scalar", None, None, "single", ""), ("scalar", None, None, "double", "\n")]
        heads = [SEQUENCE, MAPPING, LIST, TABLE, ("sequence", "x", "!t", "block"), ("mapping", None, "!t", "block")]
        inner = [[leaf] for leaf in leaves] + [[head, A, B, CLOSE] for head in heads] + [[LIST, CLOSE], [TABLE, CLOSE]]
        many = 0
        for head in heads:
            for one, other in itertools.product(inner, repeat=2):
                for begin, end in ((OPEN, OVER), (MARKED, ENDED)):
                    rows = [begin, head] + one + other + [CLOSE, end]
                    if plain.wrong_index(rows) is None:
                        self.check(rows, plain.stream_text(rows))
                        many += 1
        self.assertGreater(many, 2000)

    def test_rows_by_chance(self):
        chance = random.Random(30)
        for _ in range(4000):
            rows = plain.drawn_rows(chance, chance.choice([1, 2, 3, 4]))
            kept = list(rows)
            self.check(rows, plain.stream_text(rows))
            self.assertEqual(rows, kept)

    def test_one_text_for_the_same_bare_events(self):
        chance = random.Random(31)
        written = 0
        for _ in range(6000):
            text = pieces_text(chance) if chance.random() < 0.5 else rows_text(chance)
            try:
                rows = bare(read(text))
            except ValueError:
                continue
            wrong = plain.wrong_index(rows)
            if wrong is None:
                self.check(rows, plain.stream_text(rows))
                written += 1
            else:
                with self.assertRaises(NoEvents) as caught:
                    events_text(rows)
                self.assertEqual(caught.exception.index, wrong)
        self.assertGreater(written, 500)

    def test_long_texts(self):
        """The events of texts of 3,000 signs of each kind are written in a short time."""
        for name, text in LONG.items():
            with self.subTest(name):
                rows = bare(read(text))
                begun = time.perf_counter()
                try:
                    written = events_text(rows)
                except NoEvents as error:
                    self.assertEqual(error.index, plain.wrong_index(rows))
                else:
                    self.assertEqual(bare(read(written)), rows)
                self.assertLess(time.perf_counter() - begun, 1.0)

    def test_deep(self):
        """Nothing is promised of texts so deep, but they are written."""
        for head, most in ((SEQUENCE, 300), (LIST, 300), (MAPPING, 200)):
            one = [head, A] if head == MAPPING else [head]
            self.assertIn("a", events_text([OPEN] + one * most + [A] + [CLOSE] * most + [OVER]))
        for deep in range(1, 31):
            self.check([OPEN] + [SEQUENCE] * deep + [A] + [CLOSE] * deep + [OVER], "- " * deep + "a\n")


class Bare(unittest.TestCase):
    def test_bare(self):
        events = read("--- &x !t\n- 'a'\n- [*x , &y b]\n...\n")
        kept = list(events)
        self.assertEqual(bare(events), [MARKED, ("sequence", "x", "!t", "block"), ("scalar", None, None, "single", "a"), LIST, ("alias", "x"),
                                        plain_scalar("b", "y"), CLOSE, CLOSE, ENDED])
        self.assertEqual(events, kept)
        self.assertEqual(bare(tuple(events)), bare(events))
        self.assertIsNot(bare(events), bare(events))
        self.assertEqual(bare([]), [])
        self.assertEqual(bare(events=read("")), [])


class Wrong(unittest.TestCase):
    def check(self, rows, index):
        with self.assertRaises(NoEvents) as caught:
            events_text(rows)
        self.assertEqual(caught.exception.index, index)

    def test_no_list(self):
        for thing in strange.NO_LISTS:
            self.check(thing, -1)

    def test_elements_that_are_no_events(self):
        for thing in strange.ALL:
            self.check([thing], 0)
            self.check([MARKED, thing], 1)
            self.check((OPEN, SEQUENCE, A, thing, CLOSE, OVER), 3)
            self.check([OPEN, A, OVER, thing], 3)

    def test_parts_of_other_kinds(self):
        for row in (OPEN, OVER, A, ("alias", "x"), SEQUENCE, TABLE):
            for at in range(len(row)):
                for thing in strange.ALL:
                    other = row[:at] + (thing,) + row[at + 1:]
                    rows = document([SEQUENCE, A, CLOSE], True)
                    where = {"document": 0, "over": 4}.get(row[0], 2)
                    rows[where:where + (row[0] in ("document", "over"))] = [other] + ([CLOSE] if row[0] == "mapping" else [A, CLOSE] if row[0] == "sequence" else [])
                    wrong = plain.wrong_index(rows)
                    if wrong is None:
                        self.assertEqual(events_text(rows), plain.stream_text(rows))
                    else:
                        self.assertIn(wrong, (where, where + 1))
                        self.check(rows, wrong)

    def test_other_sizes(self):
        for row in (OPEN, OVER, A, ("alias", "x"), SEQUENCE, TABLE, CLOSE):
            for other in (row[:-1], row + (None,), row + ("a",), list(row), (row,), [row]):
                self.check([other], 0)
                self.check([OPEN, SEQUENCE, A, other], 3)

    def test_names_and_tags(self):
        for name in ("", " ", "a b", "a,", "[", "a]", "{", "}", "a\n", "\t", "\u00e9", "a\u00a0", "\x7f"):
            self.check([OPEN, ("alias", name), OVER], 1)
            self.check([OPEN, plain_scalar("a", name), OVER], 1)
            self.check([OPEN, ("mapping", name, None, "flow"), CLOSE, OVER], 1)
        for tag in ("", "a", "!!", "!!!", "!a!", "!a!b", "! ", "!a b", "!a,", "!<a>", "!a\n", "!\u00e9", "!!a!", "!^", "a!"):
            self.check([OPEN, plain_scalar("a", None, tag), OVER], 1)
            self.check([OPEN, ("sequence", "x", tag, "block"), A, CLOSE, OVER], 1)

    def test_values(self):
        self.check([OPEN, plain_scalar("a" * 3001), OVER], 1)
        self.check([OPEN, ("scalar", None, None, "double", "a\r"), OVER], 1)
        self.check([OPEN, plain_scalar("a:"), OVER], 1)
        self.check([OPEN, MAPPING, plain_scalar("a:"), A, CLOSE, OVER], 2)
        self.check([OPEN, MAPPING, plain_scalar(" a"), A, CLOSE, OVER], 2)
        self.check([OPEN, MAPPING, A, ("scalar", None, None, "single", "a\n b"), CLOSE, OVER], 3)
        self.check([OPEN, LIST, plain_scalar("a,b"), CLOSE, OVER], 2)
        self.check([OPEN, TABLE, A, plain_scalar("[]"), CLOSE, OVER], 3)
        for style in ("literal", "folded"):
            self.check([OPEN, LIST, ("scalar", None, None, style, "a"), CLOSE, OVER], 2)
            self.check([OPEN, TABLE, A, ("scalar", None, None, style, "a"), CLOSE, OVER], 3)
            self.check([OPEN, SEQUENCE, LIST, CLOSE, ("scalar", None, None, style, "a"), LIST, ("scalar", None, None, style, "a")], 6)

    def test_documents(self):
        self.check([A, OVER], 0)
        self.check([OVER], 0)
        self.check([CLOSE], 0)
        self.check([OPEN, OVER], 1)
        self.check([MARKED, ENDED], 1)
        self.check([OPEN, MARKED], 1)
        self.check([OPEN, A, A, OVER], 2)
        self.check([OPEN, A, OPEN, B, OVER], 2)
        self.check([OPEN, A, OVER, OPEN, B, OVER], 3)
        self.check([MARKED, A, OVER, OPEN, B, OVER], 3)
        self.check([OPEN, A, ENDED, MARKED, B, OVER, OPEN], 6)
        self.check([OPEN, A, OVER, OVER], 3)
        self.check([OPEN, SEQUENCE, A, OVER], 3)
        self.check([OPEN, SEQUENCE, A, OPEN], 3)
        self.check([OPEN, A, CLOSE], 2)

    def test_empty_nodes(self):
        self.check([OPEN, VOID, OVER], 1)
        self.check([MARKED, A, ENDED, OPEN, VOID, OVER], 4)
        self.check([OPEN, LIST, VOID, CLOSE, OVER], 2)
        self.check([OPEN, TABLE, VOID, LIST, A, VOID, CLOSE, CLOSE, OVER], 5)
        self.assertEqual(events_text([OPEN, TABLE, VOID, VOID, CLOSE, ENDED, MARKED, VOID, OVER]), "{:}\n...\n---\n")

    def test_collections(self):
        for head in (SEQUENCE, MAPPING):
            self.check([OPEN, head, CLOSE, OVER], 2)
            self.check([OPEN, SEQUENCE, A, head, CLOSE, CLOSE, OVER], 4)
            self.check([OPEN, LIST, head, A, A, CLOSE, CLOSE, OVER], 2)
            self.check([OPEN, TABLE, A, head], 3)
        for head in (MAPPING, TABLE):
            self.check([OPEN, head, A, CLOSE, OVER], 3)
            self.check([OPEN, head, A, B, C, CLOSE, OVER], 5)

    def test_begins(self):
        rows = [OPEN, MAPPING, A, SEQUENCE, LIST, TABLE, B, C, CLOSE, CLOSE, CLOSE, CLOSE, ENDED, MARKED, VOID, OVER]
        self.assertIsNone(plain.wrong_index(rows))
        for many in range(1, len(rows)):
            if rows[many - 1][0] != "over":
                self.check(rows[:many], many)
                self.check(tuple(rows[:many]), many)
        self.assertEqual(events_text(rows[:13]), "a:\n  - [{b: c}]\n...\n")

    def test_all_short_rows(self):
        kinds = [OPEN, MARKED, A, VOID, LIST, MAPPING, CLOSE, OVER, ENDED]
        for many in range(6):
            for rows in itertools.product(kinds, repeat=many):
                wrong = plain.wrong_index(rows)
                if wrong is None:
                    self.assertEqual(events_text(rows), plain.stream_text(rows))
                else:
                    self.check(rows, wrong)

    def test_rows_by_chance(self):
        """One element left out, doubled, exchanged, put in, cut off, of another size, or with another part."""
        chance = random.Random(32)
        extra = [OPEN, MARKED, OVER, ENDED, CLOSE, A, VOID, LIST, MAPPING, ("alias", "x"), ("scalar", None, None, "literal", "a"), None, (), ("document", 1), ("alias", "a,b")]
        parts = [None, True, False, 0, 1, "", "block", "flow", "plain", "literal", "a", "x", "!", "!t", "scalar", "close", "a: b", ()]
        for _ in range(3000):
            rows = plain.drawn_rows(chance, chance.choice([1, 2, 3]), 2) or [OPEN, A, OVER]
            k, j = chance.randrange(len(rows)), chance.randrange(len(rows))
            part = chance.randrange(len(rows[k]))
            exchanged = list(rows)
            exchanged[k], exchanged[j] = rows[j], rows[k]
            for other in (rows[:k] + rows[k + 1:], rows[:k] + rows[k:k + 1] + rows[k:], exchanged, rows[:k] + [chance.choice(extra)] + rows[k:], rows[:k],
                          rows[:k] + [rows[k][:-1]] + rows[k + 1:], rows[:k] + [rows[k][:part] + (chance.choice(parts),) + rows[k][part + 1:]] + rows[k + 1:]):
                wrong = plain.wrong_index(other)
                if wrong is None:
                    self.assertEqual(events_text(other), plain.stream_text(other))
                else:
                    self.check(other, wrong)


if __name__ == "__main__":
    unittest.main()
