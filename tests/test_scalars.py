"""Which values fit, how they are written, and what texts of scalars are read as."""

import itertools
import random
import unittest

from anchorpages.errors import NoFit, NoStyle, PageError
from anchorpages.reader import read
from anchorpages.scalars import fits, least, read_scalar, written
from tests.stage2_rules import NoStream, Rules

STYLES = ("plain", "single", "double", "literal", "folded")
CONTEXTS = ("block", "key", "flow", "pair")
LETTERS = {"block": "O", "key": "K", "flow": "I", "pair": "P"}
PIECES = ["a", " ", "\n", "\t", ":", "-", "?", "#", "'", "\"", "\\", "[", ",", "---", "...", "!", "&", "*", "|", "{", "}", "]"]
FEW_PIECES = ["a", " ", "\n", "\t", ":", "-", "#", "'", "\"", ",", "---", "..."]

# Of each value the contexts in which it fits "plain", by their first letters, and "single".
FITTING = [
    ("a", "bkfp", "bkfp"), ("", "", "bkfp"), ("a b", "bkfp", "bkfp"), ("a: b", "", "bkfp"), ("a:b", "bkfp", "bkfp"),
    ("--- a", "bkfp", "bkfp"), ("a ", "", "bkfp"), (" a", "", "bkfp"), ("a:", "kp", "bkfp"), (":", "kp", "bkfp"), ("-", "kp", "bkfp"),
    ("?", "kp", "bkfp"), ("- a", "", "bkfp"), ("-a", "bkfp", "bkfp"), ("?a", "bkfp", "bkfp"), (":a", "bkfp", "bkfp"),
    ("::", "kp", "bkfp"), ("--", "bkfp", "bkfp"), ("-,", "bk", "bkfp"), ("a:,", "bk", "bkfp"), ("a:[", "bk", "bkfp"), ("a,", "bk", "bkfp"),
    ("a]", "bk", "bkfp"), (",a", "", "bkfp"), ("[a", "", "bkfp"), ("a#", "bkfp", "bkfp"), ("#a", "", "bkfp"), ("a #", "", "bkfp"),
    ("a\n#", "", "bf"), ("a\nb", "bf", "bf"), ("a\n\nb", "bf", "bf"), ("a \nb", "", ""), ("a\n b", "", ""), ("a\t\nb", "", ""),
    ("a\n\tb", "", ""), ("\na", "", "bf"), ("a\n", "", "bf"), ("\n", "", "bf"), ("a\tb", "", "bkfp"), ("\t", "", "bkfp"), (" ", "", "bkfp"),
    ("it's", "bkfp", "bkfp"), ("'a", "", "bkfp"), ("\"a", "", "bkfp"), ("a\"", "bkfp", "bkfp"), ("!a", "", "bkfp"), ("&a", "", "bkfp"),
    ("*a", "", "bkfp"), ("|", "", "bkfp"), (">a", "", "bkfp"), ("@", "", "bkfp"), ("`a", "", "bkfp"), ("a`@", "bkfp", "bkfp"),
    ("a:\nb", "", "bf"), ("a\n:b", "bf", "bf"), ("a\n: b", "", "bf"), ("a\n- b", "bf", "bf"), ("a\n---", "bf", "bf"),
    ("a\n-", "bf", "bf"), ("-\na", "", "bf"), ("~", "bkfp", "bkfp"), ("\\", "bkfp", "bkfp"),
]

# value, style, context, indent, width, deep, text
WRITTEN = [
    ("it's", "single", "key", 0, 0, 1, "'it''s'"),
    (" a\nb", "literal", "block", 2, 0, 1, "|1-\n   a\n  b"),
    (" a\nb", "literal", "block", 2, 0, 2, "|2-\n   a\n  b"),
    ("one two three", "plain", "block", 2, 8, 1, "one two\n  three"),
    ("a", "plain", "key", 3, 0, 1, "a"),
    ("a\nb", "plain", "block", 2, 0, 1, "a\n\n  b"),
    ("a\n\nb\nc", "plain", "flow", 1, 0, 1, "a\n\n\n b\n\n c"),
    ("a\n---\n--- b\n---c", "plain", "block", 0, 0, 1, "a\n\n ---\n\n --- b\n\n---c"),
    ("a\n---\n...", "single", "block", 0, 0, 1, "'a\n\n ---\n\n...'"),
    ("a\n... b", "single", "block", 0, 0, 1, "'a\n\n ... b'"),
    ("a\n---", "plain", "block", 1, 0, 1, "a\n\n ---"),
    ("\n", "single", "block", 2, 0, 1, "'\n\n  '"),
    ("\na\n\n", "single", "flow", 0, 0, 1, "'\n\na\n\n\n'"),
    ("", "single", "pair", 0, 0, 1, "''"),
    ("a\"\\\n\tb", "double", "block", 2, 0, 1, "\"a\\\"\\\\\\n\tb\""),
    ("", "double", "block", 0, 0, 1, "\"\""),
    ("a", "literal", "block", 1, 0, 1, "|-\n a"),
    ("a\n", "literal", "block", 0, 0, 1, "|\na"),
    ("a\n\n", "literal", "block", 1, 0, 1, "|+\n a\n"),
    ("a\n\n\n", "folded", "block", 1, 0, 1, ">+\n a\n\n"),
    ("", "literal", "block", 4, 0, 1, "|-"),
    ("", "folded", "block", 4, 0, 5, ">-"),
    ("\n", "literal", "block", 4, 0, 1, "|+\n"),
    ("\n\n", "folded", "block", 4, 0, 1, ">+\n\n"),
    ("\n\na\n", "literal", "block", 1, 0, 1, "|\n\n\n a"),
    ("\n a", "literal", "block", 1, 0, 2, "|2-\n\n  a"),
    ("  ", "literal", "block", 1, 0, 1, "|1-\n   "),
    ("\ta", "literal", "block", 1, 0, 1, "|-\n \ta"),
    (" a", "literal", "block", 0, 0, 1, "|1-\n a"),
    ("---", "literal", "block", 0, 0, 1, "|-\n ---"),
    ("a\n... b\n", "literal", "block", 0, 0, 1, "|\n a\n ... b"),
    (" a\n---", "literal", "block", 0, 0, 1, "|2-\n  a\n ---"),
    ("---a", "literal", "block", 0, 0, 1, "|-\n---a"),
    ("---", "literal", "block", 1, 0, 1, "|-\n ---"),
    ("a\nb", "folded", "block", 1, 0, 1, ">-\n a\n\n b"),
    ("a\n\nb", "folded", "block", 1, 0, 1, ">-\n a\n\n\n b"),
    ("a\n b\nc", "folded", "block", 1, 0, 1, ">-\n a\n  b\n c"),
    ("a\n\n\tb\n\nc", "folded", "block", 1, 0, 1, ">-\n a\n\n \tb\n\n c"),
    ("\na\nb\n", "folded", "block", 1, 0, 1, ">\n\n a\n\n b"),
    ("a b c", "plain", "block", 1, 1, 1, "a\n b\n c"),
    ("a b c", "plain", "block", 1, 3, 1, "a b\n c"),
    ("a b c d", "plain", "block", 1, 4, 1, "a b\n c d"),
    ("a b c d", "plain", "block", 2, 4, 1, "a b\n  c\n  d"),
    ("a b c", "plain", "key", 1, 1, 1, "a b c"),
    ("a b c", "double", "pair", 1, 1, 1, "\"a b c\""),
    ("a b", "single", "flow", 0, 1, 1, "'a\nb'"),
    ("a b", "single", "block", 0, 4, 1, "'a\nb'"),
    ("a b", "single", "block", 0, 5, 1, "'a b'"),
    ("a  b c", "plain", "block", 0, 1, 1, "a  b\nc"),
    ("a \tb c", "double", "block", 0, 1, 1, "\"a \tb\nc\""),
    (" a b ", "double", "block", 0, 1, 1, "\" a\nb \""),
    ("a \nb \n c d", "double", "block", 0, 1, 1, "\"a \\nb \\n c\nd\""),
    ("a\" b\\ c", "double", "block", 0, 1, 1, "\"a\\\"\nb\\\\\nc\""),
    ("it's a", "single", "block", 0, 6, 1, "'it''s\na'"),
    ("a --- b", "plain", "block", 0, 1, 1, "a\n ---\nb"),
    ("a --- b", "plain", "block", 0, 5, 1, "a ---\nb"),
    ("ab --- b", "plain", "block", 0, 5, 1, "ab\n ---\nb"),
    ("ab --- b", "plain", "block", 0, 6, 1, "ab ---\nb"),
    ("abc --- b", "plain", "block", 0, 6, 1, "abc\n --- b"),
    ("abc --- b", "plain", "block", 0, 5, 1, "abc\n ---\nb"),
    ("a ...", "single", "block", 0, 1, 1, "'a\n...'"),
    ("a ---  b", "double", "block", 0, 1, 1, "\"a\n ---  b\""),
    ("a b\nc d", "plain", "block", 1, 1, 1, "a\n b\n\n c\n d"),
    ("one two three", "folded", "block", 2, 9, 1, ">-\n  one two\n  three"),
    ("one two three", "folded", "block", 2, 8, 1, ">-\n  one\n  two\n  three"),
    (" a b\nc d\n", "folded", "block", 1, 1, 1, ">1\n  a b\n c\n d"),
    ("a b\nc", "folded", "block", 1, 1, 1, ">-\n a\n b\n\n c"),
    ("a --- b", "folded", "block", 0, 80, 1, ">-\n a --- b"),
    ("a --- b", "folded", "block", 0, 0, 1, ">-\na --- b"),
    ("a ---b", "folded", "block", 0, 1, 1, ">-\na\n---b"),
    (" a --- b", "folded", "block", 0, 80, 1, ">1-\n a --- b"),
    (" a\n---", "folded", "block", 0, 80, 1, ">2-\n  a\n ---"),
    ("a b", "literal", "block", 0, 1, 1, "|-\na b"),
    ("a b ", "folded", "block", 0, 1, 1, ">-\na\nb "),
]

# value, context, indent, style, text
LEAST = [
    ("", "flow", 0, "single", "''"), ("", "block", 0, "single", "''"), ("a", "block", 0, "plain", "a"), ("a: b", "block", 0, "single", "'a: b'"),
    ("'", "block", 0, "double", "\"'\""), ("a'b: ", "key", 0, "double", "\"a'b: \""), ("\"'", "key", 0, "single", "'\"'''"),
    ("\n", "block", 0, "literal", "|+\n"), ("\n", "key", 0, "double", "\"\\n\""), ("\n", "flow", 0, "single", "'\n\n'"),
    ("a\n", "block", 0, "literal", "|\na"), ("a\n", "block", 1, "literal", "|\n a"), ("a\n", "block", 2, "double", "\"a\\n\""),
    ("a\nb", "block", 0, "plain", "a\n\nb"), ("a\nb", "block", 3, "double", "\"a\\nb\""), ("a\nb", "block", 2, "plain", "a\n\n  b"),
    ("\ta", "block", 0, "single", "'\ta'"), ("a\n ", "block", 0, "double", "\"a\\n \""), ("a\n\"b", "block", 1, "plain", "a\n\n \"b"),
    ("- 'a'\n", "block", 0, "literal", "|\n- 'a'"), ("# 'a' \"b\"", "block", 0, "literal", "|-\n# 'a' \"b\""),
]

WRONG = [None, True, False, 1, 1.5, b"block", [], ["plain"], (), ("block",), {}, {"a": 1}, {"plain"}, object(), int, NoFit(), "", "Plain",
         "literal ", range(3), ValueError("plain")]
NO_VALUES = [None, True, 1, b"a", [], ["a"], ("a",), {}, set(), object(), str, "a" * 3001, "\r", "a\x00", "\x7f", "\xe9", NoFit("a")]
NO_NUMBERS = [None, True, False, "1", "", 1.0, [], (1,), {}, {1}, object(), int, b"1", -1]


def outcome(work, *told):
    try:
        return work(*told)
    except PageError as error:
        return type(error), getattr(error, "part", None)


def in_stream(text, style, context, indent, deep):
    """A stream with this text of a scalar, and the number of its event in it."""
    if context == "key":
        return "- " + text + ": b\n", 3
    if context == "block":
        ahead = "--- " if indent == deep - 1 else " " * (indent - deep) + "- "
        return ahead + text + "\n", 1 if ahead == "--- " else 2
    ahead = "--- [" if indent == 0 else " " * (indent - 1) + "- ["
    number = 2 if indent == 0 else 3
    return (ahead + text + "]\n", number) if context == "flow" else (ahead + text + ": b]\n", number + 1)


class Fits(unittest.TestCase):
    def test_examples(self):
        for value, plain, single in FITTING:
            for context in CONTEXTS:
                with self.subTest(value=value, context=context):
                    self.assertIs(fits(value, "plain", context), context[0] in plain)
                    self.assertIs(fits(value, "single", context), context[0] in single)
                    self.assertIs(fits(value, "double", context), True)
                    self.assertIs(fits(value, "literal", context), context == "block")
                    self.assertIs(fits(value, "folded", context), context == "block")

    def test_contexts_within_others(self):
        for value in itertools.product(PIECES, repeat=3):
            value = "".join(value)
            if fits(value, "plain", "flow"):
                self.assertTrue(fits(value, "plain", "block"))
            if fits(value, "plain", "pair"):
                self.assertTrue(fits(value, "plain", "key"))

    def test_every_value_that_is_read_fits(self):
        for text in itertools.product(["a", " ", "\n", ":", "-", "#", "'", "\"", "[", ",", "\t", "\\", "---"], repeat=4):
            text = "".join(text)
            for style in STYLES:
                for context in CONTEXTS:
                    value = read_scalar(text, style, context, 1)
                    if value is not None:
                        self.assertTrue(fits(value, style, context), (text, style, context))


class Written(unittest.TestCase):
    def test_examples(self):
        for value, style, context, indent, width, deep, text in WRITTEN:
            with self.subTest(value=value, style=style, context=context, indent=indent, width=width):
                self.assertEqual(written(value, style, context, indent, width, deep), text)
                self.assertEqual(read_scalar(text, style, context, indent, deep), value)

    def check(self, value, indents, widths, deeps=(1, 2)):
        for style, context in itertools.product(STYLES, CONTEXTS):
            for indent, width, deep in itertools.product(indents, widths, deeps):
                if deep > indent + 1:
                    continue
                told = (value, style, context, indent, width, deep)
                if not fits(value, style, context):
                    with self.assertRaises(NoFit, msg=told):
                        written(*told)
                    continue
                text = written(*told)
                self.assertEqual(read_scalar(text, style, context, indent, deep), value, told)
                if deep > 1 and style not in ("literal", "folded"):
                    continue
                whole, number = in_stream(text, style, context, indent, deep)
                event = read(whole)[number]
                self.assertEqual(event[:5], ("scalar", None, None, style, value), told)

    def test_short_values(self):
        for many in range(3):
            for pieces in itertools.product(PIECES, repeat=many):
                self.check("".join(pieces), (0, 1, 3), (0, 1, 4))
        for pieces in itertools.product(FEW_PIECES, repeat=3):
            self.check("".join(pieces), (0, 2), (0, 2))

    def test_values_by_chance(self):
        chance = random.Random(30)
        for _ in range(1500):
            pieces = chance.choices(PIECES + ["ab", "c", " ", " ", "\n", "\n\n"], k=chance.choice([4, 6, 10]))
            self.check("".join(pieces), (chance.choice([0, 0, 1, 4]),), (0, chance.choice([1, 3, 5, 9])))

    def test_lines_are_full(self):
        chance = random.Random(31)
        for _ in range(2000):
            words = ["".join(chance.choices("ab-.'", k=chance.randrange(1, 7))).strip("'") or "a"
                     for _ in range(chance.randrange(1, 9))]
            words[0] = "a" + words[0]
            value = " ".join(words)
            width, indent = chance.randrange(1, 16), chance.choice([0, 1, 2, 5])
            for style, quote in (("plain", ""), ("single", "'"), ("double", "\""), ("folded", "")):
                lines = written(value, style, "block", indent, width).split("\n")
                if style == "folded":
                    self.assertEqual(lines.pop(0), ">-")
                escaped = [word.replace("'", "''") if style == "single" else word for word in words]
                escaped[0] = quote + escaped[0]
                escaped[-1] += quote
                self.assertEqual(" ".join(line.strip(" ") for line in lines), " ".join(escaped))
                for number, line in enumerate(lines):
                    row = line.strip(" ").split(" ")
                    if len(row) > 1:
                        self.assertLessEqual(len(line), width)
                    if number + 1 < len(lines):
                        following = lines[number + 1].strip(" ").split(" ")[0]
                        self.assertGreater(len(line) + 1 + len(following), width)

    def test_width_of_block_and_flow_alone(self):
        for context, text in (("block", "a\nb"), ("flow", "a\nb"), ("key", "a b"), ("pair", "a b")):
            self.assertEqual(written("a b", "plain", context, 0, 1), text)


class ReadScalar(unittest.TestCase):
    def test_examples(self):
        for text, style, context, indent, value in (
                ("|\n ab", "literal", "block", 1, "ab\n"), ("|\n ab\n", "literal", "block", 1, "ab\n"), ("|+\n ab\n", "literal", "block", 1, "ab\n\n"),
                ("|", "literal", "block", 1, ""), ("|+", "literal", "block", 1, ""), ("|+\n", "literal", "block", 1, "\n"),
                ("| # c\n a", "literal", "block", 1, "a\n"), ("|\n a\n# c", "literal", "block", 1, None), ("|\n   a", "literal", "block", 1, "a\n"),
                ("|\na", "literal", "block", 1, None), ("|\na", "literal", "block", 0, "a\n"), ("|\n---", "literal", "block", 0, None),
                ("|\n  \n a", "literal", "block", 1, None), (">\n a", "literal", "block", 1, None), ("|\n a", "folded", "block", 1, None),
                ("|\n a", "literal", "flow", 1, None), ("|\n a", "literal", "key", 1, None), (">\n a\n b", "folded", "block", 1, "a b\n"),
                ("a ", "plain", "block", 0, None), (" a", "plain", "block", 0, None), ("a\n", "plain", "block", 0, None),
                ("a #b", "plain", "block", 0, None), ("a\nb", "plain", "block", 0, "a b"), ("a\nb", "plain", "block", 1, None),
                ("a\n  b", "plain", "flow", 1, "a b"), ("a\n b", "plain", "key", 1, None), ("a\n---", "plain", "block", 0, None),
                ("a\n ---", "plain", "block", 0, "a ---"), ("--- a", "plain", "block", 0, "--- a"), ("---", "plain", "flow", 0, "---"),
                ("a:", "plain", "key", 0, "a:"), ("a:", "plain", "pair", 0, "a:"), ("a:", "plain", "block", 0, None), ("a:", "plain", "flow", 0, None),
                ("-", "plain", "key", 0, "-"), ("-", "plain", "block", 0, None), ("a,b", "plain", "key", 0, "a,b"), ("a,b", "plain", "pair", 0, None),
                ("", "plain", "block", 0, None), ("'a' ", "single", "block", 0, None), ("'a", "single", "block", 0, None), ("'a'", "double", "block", 0, None),
                ("'a''b'", "single", "pair", 0, "a'b"), ("'a\n b'", "single", "block", 1, "a b"), ("'a\nb'", "single", "block", 1, None),
                ("'a\n b'", "single", "pair", 1, None), ("\"a\\\n b\"", "double", "flow", 1, "ab"), ("\"a\\x\"", "double", "flow", 1, None),
                ("\"\\t\\/\"", "double", "key", 9, "\t/"), ("&a b", "plain", "block", 0, None), ("a\n: b", "plain", "block", 0, None),
                ("a\n:b", "plain", "block", 0, "a :b")):
            with self.subTest(text=text, style=style, context=context):
                self.assertEqual(read_scalar(text, style, context, indent), value)

    def test_deep(self):
        self.assertEqual(read_scalar("|1\n  a", "literal", "block", 2, 2), " a\n")
        self.assertEqual(read_scalar("|2\n  a", "literal", "block", 2, 2), "a\n")
        self.assertEqual(read_scalar("|2\n  a", "literal", "block", 2, 1), None)
        self.assertEqual(read_scalar("|\n a", "literal", "block", 2, 1), None)
        self.assertEqual(read_scalar("|\n a", "literal", "block", 2, 2), "a\n")

    def test_what_is_no_text(self):
        for thing in (None, True, 1, b"a", [], ["a"], ("a",), {}, object(), str, "\r", "a\x7f"):
            for style in STYLES:
                self.assertIsNone(read_scalar(thing, style, "block", 0))

    def test_by_the_rules(self):
        tails = {"block": "\n", "key": ": ", "flow": "]", "pair": ": "}
        for pieces in itertools.product(FEW_PIECES + ["|", ">"], repeat=3):
            text = "".join(pieces)
            for style, context, indent in itertools.product(STYLES[:3], CONTEXTS, (0, 1)):
                found = getattr(Rules(" " + text + tails[context]), style)(indent, LETTERS[context], 1)
                value = found[1] if found and found[0] == len(text) + 1 else None
                self.assertEqual(read_scalar(text, style, context, indent), value, (text, style, context, indent))

    def test_block_scalars_by_the_rules(self):
        for header in ("|", ">", "|+", ">1", "|2-"):
            for pieces in itertools.product(["\n", " ", "a", "\n ", "\t", "---"], repeat=4):
                text = header + "\n" + "".join(pieces)
                style = "literal" if header[0] == "|" else "folded"
                for indent in (0, 1):
                    try:
                        found = Rules(" " + text + "\n").scalar(indent - 1, 1)
                    except NoStream:
                        found = None
                    value = found[2] if found and found[0] == len(text) + 2 else None
                    self.assertEqual(read_scalar(text, style, "block", indent), value, (text, indent))


class Least(unittest.TestCase):
    def test_examples(self):
        for value, context, indent, style, text in LEAST:
            with self.subTest(value=value, context=context, indent=indent):
                self.assertEqual(least(value, context, indent), (style, text))

    def test_none_is_shorter(self):
        for pieces in itertools.product(FEW_PIECES, repeat=3):
            value = "".join(pieces)
            for context, indent in itertools.product(CONTEXTS, (0, 2)):
                texts = [(len(written(value, style, context, indent)), number) for number, style in enumerate(STYLES)
                         if fits(value, style, context)]
                style, text = least(value, context, indent)
                self.assertEqual((len(text), STYLES.index(style)), min(texts))
                self.assertEqual(text, written(value, style, context, indent))


class Arguments(unittest.TestCase):
    def test_values(self):
        for thing in NO_VALUES:
            with self.subTest(thing=thing):
                self.assertEqual(outcome(fits, thing, None, None), (NoStyle, "value"))
                self.assertEqual(outcome(written, thing, None, None, None), (NoStyle, "value"))
                self.assertEqual(outcome(least, thing, None, None), (NoStyle, "value"))

    def test_styles_and_contexts(self):
        for thing in WRONG + ["block"]:
            with self.subTest(thing=thing):
                self.assertEqual(outcome(fits, "a", thing, None), (NoStyle, "style"))
                self.assertEqual(outcome(written, "a", thing, None, None), (NoStyle, "style"))
                self.assertEqual(outcome(read_scalar, "a", thing, None, None), (NoStyle, "style"))
        for thing in WRONG + ["plain"]:
            with self.subTest(thing=thing):
                self.assertEqual(outcome(fits, "a", "plain", thing), (NoStyle, "context"))
                self.assertEqual(outcome(written, "a", "plain", thing, None), (NoStyle, "context"))
                self.assertEqual(outcome(read_scalar, "a", "plain", thing, None), (NoStyle, "context"))
                self.assertEqual(outcome(least, "a", thing, None), (NoStyle, "context"))

    def test_numbers(self):
        for thing in NO_NUMBERS:
            with self.subTest(thing=thing):
                self.assertEqual(outcome(written, "a", "plain", "block", thing, None), (NoStyle, "indent"))
                self.assertEqual(outcome(read_scalar, None, "plain", "block", thing, None), (NoStyle, "indent"))
                self.assertEqual(outcome(least, "a", "block", thing), (NoStyle, "indent"))
                self.assertEqual(outcome(written, "a", "plain", "block", 0, thing, None), (NoStyle, "width"))
                self.assertEqual(outcome(written, "a", "plain", "block", 0, 0, thing), (NoStyle, "deep"))
                self.assertEqual(outcome(read_scalar, "a", "plain", "block", 0, thing), (NoStyle, "deep"))
        self.assertEqual(outcome(written, "a", "plain", "block", 101), (NoStyle, "indent"))
        self.assertEqual(outcome(written, "a", "plain", "block", 0, 201), (NoStyle, "width"))
        self.assertEqual(outcome(written, "a", "plain", "block", 0, 200), "a")
        self.assertEqual(outcome(written, "a", "plain", "block", 100, 200, 9), "a")
        for indent, deep in ((0, 2), (3, 5), (8, 0), (100, 10), (9, 10)):
            self.assertEqual(outcome(written, "a", "plain", "key", indent, 0, deep), (NoStyle, "deep"))
            self.assertEqual(outcome(read_scalar, "a", "plain", "key", indent, deep), (NoStyle, "deep"))
        for indent, deep in ((0, 1), (3, 4), (8, 9), (100, 9)):
            self.assertEqual(outcome(written, "a", "literal", "block", indent, 0, deep), "|-\n" + " " * indent + "a")

    def test_no_fit_comes_last(self):
        self.assertEqual(outcome(written, "", "plain", "block", 0, 0, 0), (NoStyle, "deep"))
        self.assertEqual(outcome(written, "", "plain", "block", 0), (NoFit, None))
        self.assertEqual(outcome(written, "a", "literal", "flow", 0), (NoFit, None))
        self.assertEqual(outcome(written, "a\nb", "single", "pair", 0), (NoFit, None))

    def test_names(self):
        self.assertTrue(fits(value="a", style="plain", context="key"))
        self.assertEqual(written(value="a b", style="plain", context="block", indent=1, width=1, deep=2), "a\n b")
        self.assertEqual(read_scalar(text="a", style="plain", context="block", indent=1, deep=1), "a")
        self.assertEqual(least(value="a", context="block", indent=1), ("plain", "a"))

    def test_longest(self):
        value = "a" * 3000
        self.assertTrue(fits(value, "plain", "key"))
        self.assertEqual(read_scalar(written("'" * 3000, "single", "key", 0), "single", "key", 0), "'" * 3000)


if __name__ == "__main__":
    unittest.main()
