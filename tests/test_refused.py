"""The place at which a text is refused, rule by rule."""

import unittest

from anchorpages.errors import Refused
from anchorpages.reader import read, refused

# Each text with the place of the sign at which it is refused: the text ends
# behind this sign, or at the place if more signs are needed.

LINES = [
    ("a\t", 1), ("\ta", 0), (" \t", 1), ("a:\t", 2), ("-\t", 1), ("?\t", 1), ("a: \t", 3), ("- a \t", 4),
    ("--- \t", 4), ("---\t", 3), ("...\t", 3), ("... a", 4), ("...a: b\n... a", 12), ("'a'#", 3), ("'a'\t", 3),
    ("|#", 1), ("[a]#", 3), ("[a] b", 4), ("'a' b", 4), ("*a b", 3), ("a\n\t", 2), ("- a\n \t", 5),
]

PLAIN = [
    ("a: b: ", 5), ("a: b:\n", 5), ("a: b: c", 5), ("- - a\n    b: ", 12), ("a\nb: ", 4), ("a\n  b:\n", 6), ("a\n: ", 3),
    ("`", 0), ("@", 0), (",", 0), ("]", 0), ("}", 0), ("#a\n]", 3), ("- ]", 2), ("a: ,", 3), ("a: -\n", 4), ("a: - ", 4),
    ("a: ? ", 4), ("a: : ", 4), ("a: |a", 4), ("[-]", 2), ("[?,", 2), ("[- ", 2), ("{-}", 2), ("{?}", 2), ("[a b[", 4),
    ("[a{", 2), ("[a\n: ", 4), ("[a #c\n:", 6), ("[a #c\nb", 6), ("a #c\n b", 6), ("a\n# c\nb", 6), ("- a\n# c\n  b", 10),
    ("[a: b: ", 6), ("{a: b: ", 6), ("{a: b\n:\n", 7), ("{a: b\n:", 7), ("[a\n---\n", 6), ("[a\n--- ", 6), ("[a\n...", 6),
    ("a: [b\nc", 6), ("a: [b\n# c\n]", 10),
]

QUOTES = [
    ("'", 1), ("'a", 2), ('"', 1), ('"a', 2), ('"\\', 2), ('"\\a', 2), ('"\\x', 2), ("\"\\'", 2), ('"\\N', 2), ("'a'b", 3),
    ('"a"b', 3), ("'a''", 4), ("- 'a\nb", 5), ("- 'a\n\nb", 6), ("- 'a\n\tb", 5), ("- 'a\n \tb", 8), ("a: \"b\nc", 6),
    ("- - 'a\n b", 8), ("'a\n---\n", 6), ("'a\n--- ", 6), ("'a\n...", 6), ("'a\n...\n", 6), ('"a\\\n---\n', 7),
    ("'a\n\n--- ", 7), ("'a': 'b': ", 8), ("a: 'b': ", 6), ("'a\n b': ", 6), ("a: b\n'c\n", 7), ("a: b\n\"c\\\n", 8),
    ("a: b\n'c' ", 9), ("a: b\n'c'\n", 8), ("['a\nb': ", 6), ("'a':b", 4), ("- 'a':b", 6), ("'a' :b", 5), ("'a':#", 4),
]

NODES = [
    ("& ", 1), ("&,", 1), ("&", 1), ("* ", 1), ("*,", 1), ("*", 1), ("&a,", 2), ("*a,", 2), ("*a]", 2), ("!!", 2), ("!! ", 2),
    ("!!!", 2), ("!a!", 2), ("!,", 1), ("!a\"", 2), ("!a,", 2), ("!<", 1), ("!a{", 2), ("&a &", 3), ("!a !", 3),
    ("&a !b &", 6), ("&a !b !", 6), ("&a *", 3), ("!a *", 3), ("&a\n*b\n", 5), ("&a\n*b ", 6), ("&a\n&b\n", 5), ("&a\n&b c\n", 7),
    ("&a\n&b # c", 6), ("&a !b\n!c\n", 8), ("&a\n!b &c d\n", 10), ("&a - ", 4), ("&a ? ", 4), ("&a : b: ", 7), ("a: &b : ", 7),
    ("a: &b &", 6), ("a: b\n&c\n", 7), ("a: b\n&c # d", 8), ("a: b\n*c\n", 7), ("- &a\n&", 5), ("a: *b : ", 6), ("*a :b", 4),
    ("*a: b: ", 4), ("[&a *", 4), ("[&a &", 4), ("[!a !", 4), ("[!a[", 3), ("[&a[", 3), ("[&a\n: ", 5), ("[&a\n&", 4),
    ("[&a 'b'\n:", 8), ("[&a\n'b':", 7), ("[&a\nb: ", 6), ("[&a - ", 5), ("[*a :b", 5), ("[*a b", 4), ("{*a b", 4),
    ("{*a :b", 5), ("[*a\n:", 4), ("{&a\n- ", 5), ("[!a\n--- ", 7),
]

BRACKETS = [
    ("[", 1), ("{", 1), ("[,", 1), ("{,", 1), ("[a,,", 3), ("[}", 1), ("{]", 1), ("[a}", 2), ("{a]", 2), ("[a", 2), ("[a, b", 5),
    ("[a] ]", 4), ("[#", 1), ("[a,#", 3), ("['a'#", 4), ("[a\n#", 4), ("- [\na", 4), ("- [\n]", 4), ("- [a,\n \n]", 8),
    ("a: [\n]", 5), ("a:\n  [\n]", 7), ("- - [\n  a", 8), ("['a' 'b'", 5), ("['a': 'b':", 9), ("['a'\n:", 5), ("['a' #c\n:", 8),
    ("{'a': 'b' :", 10), ("{'a' b", 5), ("{a: 'b' c", 8), ("{a:[", 3), ("{a:{", 3), ("[a:[", 3), ("{a\n:[", 4), ("[? ? ", 4),
    ("{? ? ", 4), ("{? 'a' ?", 7), ("[? 'a' b", 7), ("{a: ? ", 5), ("{a: - ", 5), ("{a: : ", 5), ("[: : ", 4), ("{: : ", 4),
    ("[a]: [b]: ", 8), ("a: [b]: ", 6), ("[a,\nb]: ", 6), ("[a\n]:", 4), ("[[a,\nb]: ", 7), ("a: b\n[c,\n", 8), ("a: b\n[c #", 8),
    ("a: b\n[c]\n", 8), ("a: b\n[c] d", 9), ("[a]:b", 4), ("{a}:b", 4), ("[|", 1), ("[>", 1), ("[`", 1), ("[@", 1), ("[?\t", 2),
    ("[\t", 1), ("[a\t", 2), ("['a'\n--", 5), ("[a,\n--- ", 7), ("[\n---", 5), ("[\n-- -, - ", 9), ("[ \n...\n", 6),
]

BLOCKS = [
    ("- a\nb", 4), ("- a\n-b", 5), ("- 'a'\n -", 7), ("- - a\n -", 7), ("- - a\n - ", 7), ("a: b\n- ", 6),
    ("a: b\n-\n", 6), ("a: b\nc\n", 6), ("a: b\nc #", 7), ("a: b\n c\nd\n", 9), ("a: 'b'\n c", 8), ("a:\n  b: c\n d", 11),
    ("a:\n - b\n- ", 9), ("a:\n - b\n c", 9), ("a:\n- b\n - c: ", 12), ("a:\n- b\nc\n", 8), ("a:\n- 'b'\n c", 10), ("- a: b\n  - ", 10),
    ("- a: b\n c", 8), ("? a\n- b", 5), ("? 'a'\n b", 7), ("? a\n: b\n : ", 10), ("? 'a'\n :", 7), ("? a\n: b\n: c: ", 12),
    ("- ? a\n : ", 7), ("? a\n: b\n- ", 9), ("a: - b", 4), ("a: &b - ", 7), ("--- - ", 5), ("--- a: ", 6), ("--- ? ", 5),
    ("a: |\n b\nc\n", 9), ("a: b\n|", 5), ("a: b\n>", 5), ("- a\n?", 4), ("'a'\nb", 4), ("[a]\n-", 5), ("[a]\n- ", 5), ("[a]\n--a", 6),
    ("[a]\n---a", 7), ("[a]\n.a", 5), ("[a]\n..a", 6), ("[a]\n...a", 7), ("[a]\n --", 5), ("- a\n--b", 6), ("- a\n---b", 7),
    ("- a\n.", 5), ("- a\n...b", 7), ("- a\n--", 6), (" - a\n- ", 6), (" a: b\nc", 6), ("a:\n  ? b\n : ", 10), ("? - a\n - ", 7),
]

BLOCK_SCALARS = [
    ("|a", 1), ("|0", 1), ("|11", 2), ("|+-", 2), ("|++", 2), ("|1+1", 3), ("|1+-", 3), ("| a", 2), ("|\t", 1), ("|+ a", 3),
    ("|1#", 2), ("- |\n   \n a", 9), ("|\n   \n a", 7), ("|\n  \na", 5), ("|\n  \n#", 5), ("|\n  \n-a", 6), ("|\n  \n--a", 7),
    ("|\n  \n---a", 8), ("|\n  \n---", None), ("- |\n   \n # c", 9), ("- |\n   \n# c\n b", 13), ("- |\n  a\n b", 9),
    ("- |2\n a", 6), ("- |2\n  a\n b", 10), ("a: |\n\tb", 5), ("a: |\nb\n", 6), ("- |\na", 4), ("- |\n  a\n b", 9),
    ("|\n  a\n b", 7), ("|\n  a\n\tb", 6), ("|1\na\n  b\n...\n]", 13), ("|2\na", 3),
]

STREAMS = [
    ("a\n...\n]", 6), ("---a: b\n--- a: ", 14), ("...\n... a", 8), ("- a\n---\n]", 8), ("'a'\n...\n'b'\nc", 12), ("a\n--- b\n--- |c", 13),
    ("---\n---\n--- '", 13), ("- a\n... b", 8),
]

GROUPS = {"lines": LINES, "plain": PLAIN, "quotes": QUOTES, "nodes": NODES, "brackets": BRACKETS, "blocks": BLOCKS,
          "block scalars": BLOCK_SCALARS, "streams": STREAMS}

# Streams of which each begin is told None or its own length.
STREAMS_WITH_BEGINS = [
    "a: b\nc:\n  - d\n  - e: f\n    g: h\nj: k",
    "--- !!map\n? &a [b, c]\n: - d\n  - 'e'\n...\n# f\n---\n\"g\\\n  h\\t\\\"\"\n",
    "[a: b, 'c': d, {e, f: g, ? h : i}, [j]: k, &l m: !n o, *l : p, ? q, : r]\n",
    "{a: [b,\n c], # d\n \"e\"\n :\n f, ? g\n , ? , : h, i\n j : k}",
    "- |\n  a\n   b\n\n- >+2\n    c\n\n- |-\n\n# d\n- ? e\n  : f\n",
    "&a\n!b\nc: &d\n- e\n- &f !g\n- - h\n  - i\nj: &k\n  l: m\n",
    "&a\n!b c: d\n---\n&e\n&f g : h\n---\n&i !j\n*k : l\n",
    "? - a\n  - b\n: c: d\n  e: f\n? g\n? |\n  h\n: i\n: j\n",
    "a\n b\n\n  c\n---\n---a: b\n..c: d\n-e: f\n?g: h\n:i: j\n...\nk",
    "'a\n  b''c\n\n d'\n...\n\"f\n  \n  g\"",
    "|\n  \n---\n- a\n---\n- b\n...\n...\n--- # c\n--- >1-\n d\n",
    "a::b: c:d\n\"e\":\n  f\n[g]: h\n{i: j}: k\n!l m: n\n: o\n*p : q\n",
]


class Places(unittest.TestCase):
    def check(self, text, place):
        with self.subTest(text=text):
            self.assertEqual(refused(text), place)
            if place is None:
                return
            with self.assertRaises(Refused) as caught:
                read(text)
            self.assertEqual(caught.exception.place, place)
            # What is ahead of the refused sign is a begin of a stream.
            self.assertIn(refused(text[:place]), (None, place))
            if place < len(text):
                # The same begin with other signs behind it has the same place.
                for more in ("", " ", "\n", "a", ": b", "]", "}", "\"", "'", "\n---\n", "\n...\n", "- ", "\t"):
                    self.assertEqual(refused(text[:place + 1] + more), place)

    def test_places(self):
        for group in GROUPS.values():
            for text, place in group:
                self.check(text, place)

    def test_begins_of_streams(self):
        for text in STREAMS_WITH_BEGINS:
            self.assertIsNone(refused(text), text)
            for end in range(len(text)):
                with self.subTest(text=text[:end]):
                    self.assertIn(refused(text[:end]), (None, end))

    def test_refused_sign_in_a_stream(self):
        for text in STREAMS_WITH_BEGINS:
            for end in range(len(text)):
                for sign in "\t]}`":
                    other = text[:end] + sign
                    with self.subTest(text=other):
                        place = refused(other)
                        self.assertIn(place, (None, end, end + 1))
                        if place == end:
                            self.assertEqual(refused(other + text[end:]), end)

    def test_signs_of_no_text(self):
        for sign in ("\r", "\x00", "\x7f", "\x85", "\xe9", "\u2028", "\U0001f600"):
            self.assertEqual(refused("a" + sign), 1)
            self.assertEqual(refused("'a" + sign + "'"), 2)
            self.assertEqual(refused("a: b: c" + sign), 5)


if __name__ == "__main__":
    unittest.main()
