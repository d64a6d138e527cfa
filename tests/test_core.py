"""Tags, schemas, and what plain words mean."""

import itertools
import time
import unittest

from anchorpages.core import canonical, resolved, tag_fits, tag_needed, word_tag
from anchorpages.errors import BadTag, NoSchema, Refused

KINDS = ("scalar", "sequence", "mapping")
STYLES = ("plain", "single", "double", "literal", "folded")
WORD_TAGS = ("!!null", "!!bool", "!!int", "!!float")
TAGS = ("!!seq", "!!map", "!!str") + WORD_TAGS + ("!!other", "!own", "!int", "!!-#;/?:@&=+$_.~*'()")

# Each word with its tag, and its canonical text by this tag.
WORDS = [
    ("", "!!null", "null"), ("~", "!!null", "null"), ("null", "!!null", "null"), ("Null", "!!null", "null"), ("NULL", "!!null", "null"),
    ("true", "!!bool", "true"), ("True", "!!bool", "true"), ("TRUE", "!!bool", "true"),
    ("false", "!!bool", "false"), ("False", "!!bool", "false"), ("FALSE", "!!bool", "false"),
    ("0", "!!int", "0"), ("-0", "!!int", "0"), ("+0", "!!int", "0"), ("000", "!!int", "0"), ("12", "!!int", "12"), ("+12", "!!int", "12"),
    ("-12", "!!int", "-12"), ("012", "!!int", "12"), ("-0012", "!!int", "-12"), ("120", "!!int", "120"), ("0o17", "!!int", "15"),
    ("0o0", "!!int", "0"), ("0o007", "!!int", "7"), ("0x1F", "!!int", "31"), ("0xff", "!!int", "255"), ("0x0", "!!int", "0"),
    ("0x00aB", "!!int", "171"), ("0xe1", "!!int", "225"),
    ("1.", "!!float", "1e0"), (".5", "!!float", "5e-1"), ("1.5", "!!float", "15e-1"), ("-120.50", "!!float", "-1205e-1"),
    ("1e3", "!!float", "1e3"), ("1E3", "!!float", "1e3"), ("1e+3", "!!float", "1e3"), ("1e-3", "!!float", "1e-3"), ("1.e3", "!!float", "1e3"),
    (".5e1", "!!float", "5e0"), ("+.5", "!!float", "5e-1"), ("-.5", "!!float", "-5e-1"), ("0.0", "!!float", "0e0"), ("-0.0", "!!float", "0e0"),
    ("0e99", "!!float", "0e0"), (".0", "!!float", "0e0"), ("0.", "!!float", "0e0"), ("1200e-2", "!!float", "12e0"), ("100.00", "!!float", "1e2"),
    ("000.00100", "!!float", "1e-3"), ("1e003", "!!float", "1e3"), ("1e-0", "!!float", "1e0"), ("10e-1", "!!float", "1e0"),
    ("1e999999999", "!!float", "1e999999999"), ("-1e-999999999999999999999", "!!float", "-1e-999999999999999999999"),
    ("99.9e99999999999999999999", "!!float", "999e99999999999999999998"), ("1000e-3", "!!float", "1e0"),
    (".inf", "!!float", ".inf"), (".Inf", "!!float", ".inf"), (".INF", "!!float", ".inf"), ("+.inf", "!!float", ".inf"),
    ("-.inf", "!!float", "-.inf"), ("-.INF", "!!float", "-.inf"), (".nan", "!!float", ".nan"), (".NaN", "!!float", ".nan"), (".NAN", "!!float", ".nan"),
]

# The nearest words that have no form.
STRINGS = ["nULL", "NUll", "nul", "nulll", "~~", " ", "~ ", " ~", "tRUE", "TRue", "tru", "truee", "true ", " true", "fALSE", "yes", "no", "on", "y",
           "+", "-", "++1", "+-1", "1-", "1+", "1 ", " 1", "1\n", "\t1", "1_000", "1,000", "0o", "0o8", "0o18", "+0o7", "-0o7", "0O7", "0o-7", "0x", "0xG", "0X1",
           "-0x1", "+0x1", "0x+1", "0b1", "1a", "a1", "0x1.0", ".", "+.", "..5", "1..", "1.5.", "1.-5", "e3", ".e3", "1e", "1e+", "1e-", "1ee3", "1e3e3",
           "1e3.", "1e.3", "1e+-3", "1e 3", "+e3", ".inF", ".iNF", "inf", ".infi", ".inf ", "--.inf", "+-.inf", "+.nan", "-.nan", ".Nan", ".nAN", "nan",
           "0x1e+3", "0o7.", "1 2", "1.5f", "\n", "#", "!!int"]

NO_TAGS = ["", "!", "!!", "a", "int", "!,", "!!,", "!!a b", "!a!", "!!!a", "!!a!b", "! a", "!a ", "!!\"", "!a[", "!\n", "!\\a", None, True, 1,
           0.5, b"!!int", ["!!int"], ("!!int",), {}, {"!!int": 1}, object(), str, BadTag(1)]
NO_SCHEMAS = ["", "Core", "core ", "json", "texts", None, True, 0, b"core", ["core"], ("core", "text"), {}, {"core"}, object(), str, NoSchema("core")]


def outcome(work, *told, **more):
    """What is returned, or the error and what it tells."""
    try:
        return work(*told, **more)
    except BadTag as error:
        return BadTag, error.place
    except NoSchema as error:
        return NoSchema, error.schema


class Words(unittest.TestCase):
    def test_forms(self):
        for word, tag, text in WORDS:
            with self.subTest(word=word):
                self.assertEqual(word_tag(word), tag)
                self.assertEqual(canonical(tag, word), text)
                self.assertEqual(word_tag(word=word), canonical(tag=tag, word=word) and tag)

    def test_strings(self):
        for word in STRINGS:
            with self.subTest(word=word):
                self.assertEqual(word_tag(word), "!!str")
                for tag in WORD_TAGS:
                    self.assertIsNone(canonical(tag, word))

    def test_canonical_by_other_tags(self):
        for word in ("", "a", "12", "~", "true", "a\n\tb "):
            for tag in ("!!str", "!own", "!int", "!!other", "!!binary"):
                self.assertEqual(canonical(tag, word), word)
            self.assertIsNone(canonical("!!seq", word))
            self.assertIsNone(canonical("!!map", word))

    def test_figures_have_two_forms(self):
        for word, text in (("12", "12e0"), ("700", "7e2"), ("-0", "0e0"), ("+010", "1e1"), ("-5", "-5e0")):
            self.assertEqual(canonical("!!float", word), text)
        for word in ("0x1F", "0o7", "true", "~", ""):
            self.assertIsNone(canonical("!!float", word))
        for word in ("1.0", "1e3", ".inf", ".nan", "true", "~", ""):
            self.assertIsNone(canonical("!!int", word))

    def test_canonical_twice(self):
        for word, tag, text in WORDS:
            self.assertEqual(canonical(tag, text), text)
            self.assertEqual(word_tag(text), tag)

    def test_same_numbers(self):
        halves = ["0.5", ".5", "5e-1", "+.50", "00.5", "50e-2", ".005e2", "5.e-1", "5E-01"]
        self.assertEqual({canonical("!!float", word) for word in halves}, {"5e-1"})
        numbers = {}
        for signs in itertools.product("0123.e-", repeat=4):
            word = "".join(signs)
            for tag, kind in (("!!int", int), ("!!float", float)):
                text = canonical(tag, word)
                if text is not None:
                    self.assertEqual(numbers.setdefault((tag, text), kind(word)), kind(word))
        for tag in ("!!int", "!!float"):
            told = [number for (other, _), number in numbers.items() if other == tag]
            self.assertEqual(len(told), len(set(told)))

    def test_all_short_words(self):
        figures = "0123456789"
        for signs in itertools.product("01.eE+-xo", repeat=4):
            word = "".join(signs)
            body = word[1:] if word[0] in "+-" else word
            whole = body.isdigit() or (word[:2] == "0x" and all(sign in figures + "eE" for sign in word[2:])) or (
                word[:2] == "0o" and all(sign in figures for sign in word[2:]))
            ahead, mark, power = body.lower().partition("e")
            rest = power[1:] if power[:1] in ("+", "-") else power
            floats = (ahead.count(".") <= 1 and ahead.replace(".", "").isdigit()) and (not mark or rest.isdigit())
            self.assertEqual(word_tag(word), "!!int" if whole else "!!float" if floats else "!!str", word)

    def test_long_numbers(self):
        start = time.perf_counter()
        nines = "9" * 3000
        self.assertEqual(canonical("!!int", nines), nines)
        self.assertEqual(canonical("!!int", "-" + "0" * 1000 + "1" * 1999), "-" + "1" * 1999)
        self.assertEqual(canonical("!!float", nines), nines + "e0")
        self.assertEqual(canonical("!!float", "1" + "0" * 2999), "1e2999")
        self.assertEqual(canonical("!!float", "." + "0" * 2998 + "1"), "1e-2999")
        self.assertEqual(canonical("!!float", "1e" + "9" * 2998), "1e" + "9" * 2998)
        self.assertEqual(canonical("!!float", "10e" + "9" * 2997), "1e1" + "0" * 2997)
        self.assertEqual(canonical("!!float", "1.5e-" + "9" * 2995), "15e-1" + "0" * 2995)
        self.assertEqual(canonical("!!float", "1.5e1" + "0" * 2995), "15e" + "9" * 2995)
        self.assertEqual(canonical("!!float", "0" * 1500 + "." + "0" * 1499), "0e0")
        self.assertEqual(canonical("!!int", "0x1" + "0" * 1997), str(2 ** (4 * 1997)))
        self.assertEqual(canonical("!!int", "0x" + "f" * 1998), str(16 ** 1998 - 1))
        self.assertEqual(canonical("!!int", "0o" + "7" * 1998), str(8 ** 1998 - 1))
        self.assertEqual(canonical("!!float", "1e" + "9" * 6000), "1e" + "9" * 6000)
        self.assertEqual(len(canonical("!!int", "0x" + "f" * 5000)), 6021)
        for word in (nines, "-" + nines[1:], "." + nines[1:], "1e" + nines[2:]):
            tag = word_tag(word)
            self.assertEqual(resolved("scalar", None, "plain", word, "core"), (tag, canonical(tag, word)))
        for many in range(55, 130):
            self.assertEqual(canonical("!!float", "1e1" + "0" * many), "1e1" + "0" * many)
            self.assertEqual(canonical("!!int", "0x" + "a" * many), str(int("a" * many, 16)))
        self.assertLess(time.perf_counter() - start, 2)


class Resolved(unittest.TestCase):
    def test_scalars_without_tags(self):
        for word, tag, text in WORDS + [(word, "!!str", word) for word in STRINGS]:
            self.assertEqual(resolved("scalar", None, "plain", word, "core"), (tag, text))
            self.assertEqual(resolved("scalar", None, "plain", word, "text"), ("!!str", word))
            for style in STYLES[1:]:
                for schema in ("core", "text"):
                    self.assertEqual(resolved("scalar", None, style, word, schema), ("!!str", word))
            for style in STYLES:
                for schema in ("core", "text"):
                    self.assertEqual(resolved("scalar", "!", style, word, schema), ("!!str", word))

    def test_scalars_with_tags(self):
        for word, _, _ in WORDS:
            for style, tag in itertools.product(STYLES, TAGS[2:]):
                text = canonical(tag, word)
                self.assertEqual(resolved("scalar", tag, style, word, "text"), (tag, word))
                self.assertEqual(outcome(resolved, "scalar", tag, style, word, "core", place=7),
                                 (BadTag, 7) if text is None else (tag, text))

    def test_examples(self):
        self.assertEqual(resolved("scalar", None, "plain", "0x10", "core"), ("!!int", "16"))
        self.assertEqual(resolved("scalar", "!", "plain", "0x10", "core"), ("!!str", "0x10"))
        self.assertEqual(outcome(resolved, "scalar", "!!float", "plain", "0x10", "core"), (BadTag, 0))
        self.assertEqual(resolved("scalar", "!!int", "double", "12", "core"), ("!!int", "12"))
        self.assertEqual(resolved("scalar", None, "double", "12", "core"), ("!!str", "12"))

    def test_collections(self):
        for kind, own, other in (("sequence", "!!seq", "!!map"), ("mapping", "!!map", "!!seq")):
            for style, value in ((None, None), ("plain", "12"), (5, [])):
                for schema in ("core", "text"):
                    self.assertEqual(resolved(kind, None, style, value, schema), (own, ""))
                    self.assertEqual(resolved(kind, "!", style, value, schema), (own, ""))
                    for tag in (own, "!own", "!!other", "!str", "!!sequence"):
                        self.assertEqual(resolved(kind, tag, style, value, schema), (tag, ""))
                    for tag in (other, "!!str"):
                        self.assertEqual(outcome(resolved, kind, tag, style, value, schema, place=3), (BadTag, 3))
                for tag in WORD_TAGS:
                    self.assertEqual(outcome(resolved, kind, tag, style, value, "core", place=-1), (BadTag, -1))
                    self.assertEqual(resolved(kind, tag, style, value, "text"), (tag, ""))

    def test_collection_tags_of_scalars(self):
        for tag, schema, style in itertools.product(("!!seq", "!!map"), ("core", "text"), STYLES):
            self.assertEqual(outcome(resolved, "scalar", tag, style, "a", schema), (BadTag, 0))

    def test_order_of_errors(self):
        for schema in NO_SCHEMAS:
            with self.subTest(schema=schema):
                self.assertEqual(outcome(resolved, "scalar", "!!seq", "plain", "a", schema), (NoSchema, schema))
                self.assertEqual(outcome(resolved, "mapping", "!!int", "plain", "a", schema, place=1), (NoSchema, schema))
                self.assertEqual(outcome(tag_fits, "scalar", None, None, schema), (NoSchema, schema))
                self.assertEqual(outcome(tag_needed, "scalar", None, None, "plain", schema), (NoSchema, schema))

    def test_names(self):
        self.assertEqual(resolved(kind="scalar", tag=None, style="plain", value="1", schema="core", place=2), ("!!int", "1"))
        self.assertTrue(tag_fits(kind="scalar", tag="!!int", content="1", schema="core"))
        self.assertIsNone(tag_needed(kind="scalar", tag="!!int", content="1", style="plain", schema="core", place=2))
        with self.assertRaises(TypeError):
            resolved("scalar", None, "plain", "1", "core", 2)
        with self.assertRaises(TypeError):
            tag_needed("scalar", "!!int", "1", "plain", "core", 2)


class TagFits(unittest.TestCase):
    def test_what_is_no_tag(self):
        for thing in NO_TAGS:
            for kind, schema in itertools.product(KINDS, ("core", "text")):
                with self.subTest(thing=thing, kind=kind):
                    self.assertIs(tag_fits(kind, thing, "a", schema), False)
                    self.assertEqual(outcome(tag_needed, kind, thing, "a", "plain", schema, place=4), (BadTag, 4))

    def test_scalars(self):
        contents = [word for word, _, _ in WORDS] + [text for _, _, text in WORDS] + STRINGS
        for tag, content in itertools.product(TAGS, contents):
            self.assertIs(tag_fits("scalar", tag, content, "text"), tag not in ("!!seq", "!!map"))
            self.assertIs(tag_fits("scalar", tag, content, "core"), canonical(tag, content) == content)
        self.assertTrue(tag_fits("scalar", "!!null", "null", "core"))
        self.assertFalse(tag_fits("scalar", "!!null", "", "core"))
        self.assertFalse(tag_fits("scalar", "!!int", "012", "core"))
        self.assertFalse(tag_fits("scalar", "!!float", "12", "core"))
        self.assertTrue(tag_fits("scalar", "!!float", "12e0", "core"))
        for content in (None, 1, True, b"a", [], ("a",), {}, object()):
            for tag, schema in itertools.product(TAGS, ("core", "text")):
                self.assertIs(tag_fits("scalar", tag, content, schema), False)

    def test_collections(self):
        for content in ("", "a", None, 5, []):
            for schema in ("core", "text"):
                for kind, own, other in (("sequence", "!!seq", "!!map"), ("mapping", "!!map", "!!seq")):
                    self.assertIs(tag_fits(kind, own, content, schema), True)
                    self.assertIs(tag_fits(kind, other, content, schema), False)
                    self.assertIs(tag_fits(kind, "!!str", content, schema), False)
                    self.assertIs(tag_fits(kind, "!own", content, schema), True)
                    for tag in WORD_TAGS:
                        self.assertIs(tag_fits(kind, tag, content, schema), schema == "text")


class TagNeeded(unittest.TestCase):
    def test_examples(self):
        self.assertEqual(tag_needed("scalar", "!!str", "12", "plain", "core"), "!")
        for style in STYLES[1:]:
            self.assertIsNone(tag_needed("scalar", "!!str", "12", style, "core"))
            self.assertEqual(tag_needed("scalar", "!!int", "12", style, "core"), "!!int")
        self.assertIsNone(tag_needed("scalar", "!!int", "12", "plain", "core"))
        self.assertIsNone(tag_needed("scalar", "!!str", "a", "plain", "core"))
        self.assertEqual(tag_needed("scalar", "!!str", "", "plain", "core"), "!")
        self.assertEqual(tag_needed("scalar", "!own", "a", "plain", "core"), "!own")
        self.assertIsNone(tag_needed("scalar", "!!str", "12", "plain", "text"))
        self.assertEqual(tag_needed("scalar", "!!int", "12", "plain", "text"), "!!int")
        self.assertIsNone(tag_needed("scalar", "!!null", "null", "plain", "core"))
        self.assertEqual(outcome(tag_needed, "scalar", "!!null", "", "plain", "core"), (BadTag, 0))
        self.assertEqual(outcome(tag_needed, "scalar", "!!int", "0x1", "plain", "core", place=9), (BadTag, 9))
        for kind, own in (("sequence", "!!seq"), ("mapping", "!!map")):
            for schema, content in itertools.product(("core", "text"), ("", "a", None)):
                self.assertIsNone(tag_needed(kind, own, content, None, schema))
                self.assertEqual(tag_needed(kind, "!own", content, None, schema), "!own")
                self.assertEqual(outcome(tag_needed, kind, "!!str", content, None, schema), (BadTag, 0))

    def test_least_and_read_back(self):
        contents = sorted({text for _, _, text in WORDS} | set(STRINGS) | {word for word, _, _ in WORDS})
        for tag, content, style, schema in itertools.product(TAGS, contents, STYLES, ("core", "text")):
            if not tag_fits("scalar", tag, content, schema):
                continue
            needed = tag_needed("scalar", tag, content, style, schema)
            ways = [way for way in (None, "!", tag) if outcome(resolved, "scalar", way, style, content, schema) == (tag, content)]
            self.assertEqual(needed, ways[0])

    def test_nothing_is_changed(self):
        told = {"kind": "scalar", "tag": ["!!int"], "content": ["1"], "schema": "core"}
        self.assertFalse(tag_fits(**told))
        self.assertEqual(told, {"kind": "scalar", "tag": ["!!int"], "content": ["1"], "schema": "core"})
        self.assertNotIsInstance(BadTag(1), Refused)


if __name__ == "__main__":
    unittest.main()
