"""Texts of 3,000 signs of each kind, and 30 collections in one another, in a short time."""

import time
import unittest

from anchorpages.reader import read, refused
from anchorpages.scalars import STYLES, fits, least, read_scalar, written
from tests.stage2_rules import stream

SECONDS = 1.0
DEEP = 30


def moved_in(row):
    return "".join(" " * column + row + "\n" for column in range(DEEP))


LONG = {
    "plain": "a" * 3000,
    "plain words": "a " * 1499 + "a",
    "plain lines": "a\n" * 1500,
    "plain empty lines": "a" + "\n" * 2998 + "b",
    "plain signs": "a#" * 1500,
    "plain colons": ":" * 3000,
    "double": '"' + "a" * 2998 + '"',
    "double lines": '"' + "a\n" * 1499 + '"',
    "double white": '"' + " " * 2998 + '"',
    "double white lines": '"' + " \n" * 1499 + '"',
    "double escapes": '"' + "\\n" * 1499 + '"',
    "double escaped lines": '"' + "\\\n" * 1499 + '"',
    "single": "'" + "''" * 1499 + "'",
    "literal": "|\n" + "a\n" * 1499,
    "literal line": "|\n " + "a" * 2990,
    "literal empty lines": "|+\n" + " \n" * 1498,
    "folded": ">\n" + " a\n" * 999,
    "entries": "- a\n" * 750,
    "empty entries": "-\n" * 1500,
    "pairs": "a: b\n" * 600,
    "empty pairs": ":\n" * 1500,
    "explicit keys": "?\n" * 1500,
    "explicit pairs": "? a\n: b\n" * 375,
    "lists at a key": "a:\n- b\n" * 428,
    "comment": "#" * 3000,
    "comments": "#\n" * 1500,
    "comments at entries": "- #\n  a\n" * 375,
    "blanks": " " * 3000,
    "line feeds": "\n" * 3000,
    "documents": "---\n" * 750,
    "ends": "...\n" * 750,
    "ended documents": "a\n...\n" * 500,
    "list": "[" + "a," * 1499 + "]",
    "list lines": "[" + "\na," * 999 + "]",
    "list of pairs": "[" + "a: b," * 599 + "]",
    "list of explicit pairs": "[" + "? a," * 749 + "]",
    "list of empty pairs": "[" + ":," * 1499 + "]",
    "list comments": "[" + "\n#" * 1499 + "\n]",
    "list empty lines": "[a" + "\n" * 2990 + "]",
    "table": "{" + "a: b," * 599 + "}",
    "table of empty pairs": "{" + ":," * 1499 + "}",
    "plain key": "a" * 2990 + ": b",
    "double key": '"' + "a" * 2990 + '": b',
    "single key": "'" + "a" * 2990 + "': b",
    "list key": "[" + "a," * 1400 + "]: b",
    "list key in a list": "[[" + "a," * 1400 + "]: b]",
    "properties": "- &a !b\n" * 375,
    "anchor": "&" + "a" * 2999,
    "tag": "!" + "a" * 2999,
    "alias": "*" + "a" * 2999,
    "aliases": "- *a\n" * 600,
}

NESTED = {
    "lists": "[" * DEEP + "]" * DEEP,
    "tables": "{" * DEEP + "}" * DEEP,
    "lists and tables": "[{" * (DEEP // 2) + "a" + "}]" * (DEEP // 2),
    "lists as keys in lists": "[" * DEEP + "a" + "]: a" * (DEEP - 1) + "]",
    "lists as keys in tables": "{" * DEEP + "a" + "}: a" * (DEEP - 1) + "}",
    "list as key": "[" * (DEEP - 1) + "]" * (DEEP - 1) + ": a",
    "list over lines": "[\n" * DEEP + "a\n" + "]\n" * DEEP,
    "explicit pairs in lists": "[ ? " * (DEEP // 2) + "a" + "]" * (DEEP // 2),
    "dashes on a line": "- " * DEEP + "a",
    "question marks on a line": "? " * DEEP + "a",
    "dashes on lines": moved_in("-"),
    "keys on lines": moved_in("a:"),
    "question marks on lines": moved_in("?"),
    "colons on lines": moved_in(":"),
    "marks and colons": "- ? - ? - " + "[{" * 12 + "a" + "}]" * 12,
    "lists in lines": moved_in("-") + " " * DEEP + "- a\n" + "".join(
        " " * column + "- b\n" for column in range(DEEP - 1, -1, -1)),
}

REFUSED = {
    "open list": ("[" + "a," * 1490, 2981),
    "open table": ("{" + "a: b," * 590, 2951),
    "open lists": ("[" * DEEP + "a", DEEP + 1),
    "open quotes": ("'" + "a\n" * 1490, 2981),
    "last pair": ("a: b\n" * 590 + "a: b: c", 2955),
    "last entry": ("- a\n" * 700 + "b", 2800),
    "last line of quotes": ("- '" + "a\n b" * 700 + "\nc", 2804),
    "last line of a list": ("- [" + "\n a," * 700 + "\n]", 2804),
    "no comma": ("[" + "'a'," * 700 + "'b' 'c'", 2805),
    "key over lines": ("[" * 20 + "\n" + "]" * 20 + ": a", 41),
}


def timed(work):
    start = time.perf_counter()
    answer = work()
    return answer, time.perf_counter() - start


class Bounds(unittest.TestCase):
    def test_streams(self):
        for name, text in list(LONG.items()) + list(NESTED.items()):
            with self.subTest(name):
                events, seconds = timed(lambda: read(text))
                self.assertLess(seconds, SECONDS)
                place, seconds = timed(lambda: refused(text))
                self.assertIsNone(place)
                self.assertLess(seconds, SECONDS)
                self.assertEqual(len([event for event in events if event[0] in ("sequence", "mapping")]),
                                 len([event for event in events if event[0] == "close"]))

    def test_nested_texts_by_the_rules(self):
        for name, text in NESTED.items():
            with self.subTest(name):
                self.assertEqual(read(text), stream(text))

    def test_begins(self):
        for name, text in list(LONG.items()) + list(NESTED.items()):
            with self.subTest(name):
                for end in range(0, len(text), 97):
                    self.assertIn(refused(text[:end]), (None, end))

    def test_refused(self):
        for name, (text, place) in REFUSED.items():
            with self.subTest(name):
                found, seconds = timed(lambda: refused(text))
                self.assertEqual(found, place)
                self.assertLess(seconds, SECONDS)

    def test_more_than_promised_is_no_failure(self):
        for text in ("[" * 3000, "- " * 1500, "? " * 1500, "{" * 2000 + "}" * 2000,
                     "".join(" " * column + "-\n" for column in range(100))):
            self.assertIn(refused(text), (None, len(text)))

    def test_scalars(self):
        for value in ("a" * 3000, "a " * 1499 + "a", "a\n" * 1499 + "a", "\n" * 3000, " " * 3000, "'\"" * 1500, "\\" * 3000,
                      "--- " * 749 + "a", "a\n---\n" * 500, "\t" * 3000):
            for style in STYLES:
                if fits(value, style, "block"):
                    for width in (0, 1, 80, 200):
                        text, seconds = timed(lambda: written(value, style, "block", 1, width))
                        self.assertLess(seconds, SECONDS)
                        found, seconds = timed(lambda: read_scalar(text, style, "block", 1))
                        self.assertLess(seconds, SECONDS)
                        self.assertEqual(found, value)
            self.assertLess(timed(lambda: least(value, "block", 100))[1], SECONDS)


if __name__ == "__main__":
    unittest.main()
