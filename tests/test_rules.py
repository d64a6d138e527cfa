"""The reader against the rules of stage 2 as they stand (stage2_rules.py)."""

import itertools
import random
import unittest

from anchorpages.errors import Refused
from anchorpages.reader import read, refused
from tests.stage2_rules import stream

SIGNS = "a :\n-?[]{},\"'#&!*|>\\.1+\t"

# Some signs each, of which all texts of a length are tried.
FEW = [("a :\n-", 6), ("a :\n?", 6), ("a :\n&!", 6), ("[{]},:?a", 5), ("[a\n ]:,", 5), ("\"\n a\\-", 5), ("'\n a-:", 5),
       ("|\n a-#", 5), (">\n a+1", 5), ("-\n .a", 6), ("a \n:-?&", 5), (" \n-?:&[]", 5), ("{\n &?\":}", 5)]

PIECES = ["a", "b c", "- ", "- ", "-", "? ", "?", ": ", ":", "\n", "\n", "\n", "\n ", "\n  ", "\n  ", "\n   ", "\n    ", " ", "  ", "[",
          "]", "{", "}", ", ", ",", "\"", "'", "#", " #c", "&x ", "&x", "!t ", "!t", "!!s", "*y", "*y ", "|", ">", "|-\n", ">+\n", "|2\n",
          "---", "--- ", "...", "\\", "\\n", "\\\n", "\t", "@", "a: ", "b: ", "- a", "? a", "- - ", "'q'", "\"q\"", "[a]", "{a: b}",
          "[a: b]", "&x\n", "!t\n", "a:\n", "-\n", "?\n", ":\n", "\n- ", "\n: ", "\na: ", "---\n", "...\n", "#c\n", "`"]
ROWS = ["- ", "? ", ": ", "a: ", "a", "'q'", "\"q\"", "[a, b]", "{a: b}", "&x ", "!t ", "*y", "*y : ", "b", "# c", "|", ">-", "'q\n",
        "[a\n", "a]", "]", "[", "{", "}", "", "", " ", "'", "\"q\": ", "[a]: ", "-", "?", ":", "---", "...", "---a"]

# What makes a stream of a begin, if anything short does.
ENDS = [head + quote + brackets + tail
        for head in ("", "a", " ", "  ", "   ", "a ", "n", "\n", "\n ", "\n  ", "\n   ", "!a", "-a", "--", "-", "..", ".")
        for quote in ("", "\"", "'")
        for brackets in [""] + ["".join(row) for many in (1, 2, 3) for row in itertools.product("]}", repeat=many)]
        for tail in ("", ": a", " : a")]


def outcome(text):
    try:
        return read(text), None
    except Refused as error:
        return None, error.place


def pieces_text(chance):
    """A text of pieces, of few kinds mostly."""
    kinds = chance.sample(PIECES, chance.choice([3, 5, 8, 14, 30]))
    many = chance.choice([3, 5, 8, 12, 18, 25])
    return "".join(chance.choice(kinds if chance.random() < 0.85 else PIECES) for _ in range(many))


def rows_text(chance):
    """A text of lines that are moved in."""
    rows = []
    for _ in range(chance.choice([2, 3, 4, 6, 8])):
        body = "".join(chance.choice(ROWS) for _ in range(chance.choice([1, 1, 2, 2, 3, 4])))
        rows.append(" " * chance.choice([0, 0, 1, 2, 2, 3, 4]) + body)
    return "\n".join(rows) + chance.choice(["", "\n"])


def has_end(text):
    """Whether something makes a stream of this, by the rules."""
    return any(stream(text + end) is not None for end in ENDS)


class Rules(unittest.TestCase):
    def check(self, text):
        """The events are those of the rules, and all begins are told as such."""
        events = stream(text)
        found, place = outcome(text)
        self.assertEqual(found, events, repr(text))
        if events is None:
            self.assertTrue(0 <= place <= len(text), repr(text))
            self.assertIn(refused(text[:place]), (None, place), repr(text))
        else:
            for end in range(len(text)):
                self.assertIn(refused(text[:end]), (None, end), repr(text))

    def test_all_short_texts(self):
        for many in range(4):
            for row in itertools.product(SIGNS, repeat=many):
                self.check("".join(row))

    def test_all_texts_of_few_signs(self):
        for signs, many in FEW:
            for row in itertools.product(signs, repeat=many):
                self.check("".join(row))

    def test_texts_by_chance(self):
        chance = random.Random(20)
        for _ in range(20000):
            self.check(pieces_text(chance))
            self.check(rows_text(chance))

    def test_each_begin_has_an_end(self):
        for many in range(4):
            for row in itertools.product(SIGNS, repeat=many):
                text = "".join(row)
                if refused(text) == len(text):
                    self.assertTrue(has_end(text), repr(text))

    def test_signs_behind_the_refused_one(self):
        chance = random.Random(21)
        for _ in range(20000):
            text = pieces_text(chance) if chance.random() < 0.5 else rows_text(chance)
            place = refused(text)
            if place is not None and place < len(text):
                other = text[:place + 1] + pieces_text(chance)
                self.assertEqual(refused(other), place, repr(other))

    def test_no_sign_makes_a_stream_of_what_is_refused(self):
        chance = random.Random(22)
        for _ in range(300):
            text = pieces_text(chance)
            place = refused(text)
            if place is not None and place < len(text):
                for end in ENDS:
                    self.assertIsNone(stream(text[:place + 1] + end), repr(text[:place + 1] + end))


if __name__ == "__main__":
    unittest.main()
