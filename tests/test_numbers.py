"""Numbers, compared by their exact values, and the least words."""

import itertools
import random
import time
import unittest
from fractions import Fraction

from anchorpages.core import canonical, resolved, tag_fits, word_tag
from anchorpages.errors import BadTag
from anchorpages.graphs import Graph
from anchorpages.numbers import Number, is_less, least_word
from tests import strange

NUMBER_TAGS = ("!!int", "!!float")
WORD_SIGNS = sorted("+-.eE0123456789xo")
SPECIAL = (".nan", ".inf", "-.inf")


def is_refused(work, *told, **more):
    try:
        work(*told, **more)
    except BadTag as error:
        return error.place == 0
    return False


def value(content):
    """The number of a finite content with a small power."""
    figures, _, power = content.partition("e")
    return Fraction(int(figures)) * Fraction(10) ** int(power or "0")


def best_of_shapes(figures, power):
    """The least word for positive figures and a power, by trying all shapes with few noughts."""
    words = []
    for ahead, behind in itertools.product(range(4), range(12)):
        body = "0" * ahead + figures + "0" * behind
        words.append(body + "E" + str(power - behind))
        for part in range(len(body) + 1):
            pointed = body[:len(body) - part] + "." + body[len(body) - part:]
            words.append(pointed + "E" + str(power - behind + part))
            if power - behind + part == 0:
                words.append(pointed)
    if 0 <= power < 300:
        words.append(figures + "0" * power + ".")
    if -300 < power < 0:
        body = figures.zfill(-power)
        words.append(body[:len(body) + power] + "." + body[len(body) + power:])
    return min(words, key=lambda word: (len(word), word))


class Words(unittest.TestCase):
    def test_by_hand(self):
        told = [
            ("!!int", "0", "0"), ("!!int", "7", "7"), ("!!int", "12", "12"), ("!!int", "999999", "999999"), ("!!int", "1000000", "0xF4240"),
            ("!!int", "1048575", "0xFFFFF"), ("!!int", "1048576", "1048576"), ("!!int", "-1", "-1"), ("!!int", "-1000000", "-1000000"),
            ("!!int", "9999999", "9999999"), ("!!int", "10000000", "0x989680"), ("!!int", "16777216", "16777216"), ("!!int", "11259375", "0xABCDEF"),
            ("!!int", "-" + "9" * 50, "-" + "9" * 50),
            ("!!float", "0e0", ".0"), ("!!float", "1e0", "1."), ("!!float", "-1e0", "-1."), ("!!float", "1e1", "10."), ("!!float", "1e2", "1E2"),
            ("!!float", "1e3", "1E3"), ("!!float", "1e10", "10E9"), ("!!float", "1e11", "1E11"), ("!!float", "1e100", "10E99"), ("!!float", "1e1000", "10E999"),
            ("!!float", "-12e1000", "-120E999"), ("!!float", "1e1001", "1E1001"), ("!!float", "5e-1", ".5"), ("!!float", "5e-2", ".05"),
            ("!!float", "5e-3", ".005"), ("!!float", "5e-4", "5E-4"), ("!!float", "5e-10", ".5E-9"), ("!!float", "15e-1", "1.5"), ("!!float", "15e-2", ".15"),
            ("!!float", "123e-3", ".123"), ("!!float", "12345e-10", ".12345E-5"), ("!!float", "12345e-8", "12345E-8"), ("!!float", "12345e-7", ".0012345"), ("!!float", "12e-9", "12E-9"),
            ("!!float", "12e-10", ".12E-8"), ("!!float", "12e-11", ".12E-9"), ("!!float", "12e-12", "12E-12"), ("!!float", "12e-100", ".12E-98"),
            ("!!float", "1e-10", ".1E-9"), ("!!float", "1e-11", "1E-11"), ("!!float", "1e-9", "1E-9"),
            ("!!float", ".inf", ".INF"), ("!!float", "-.inf", "-.INF"), ("!!float", ".nan", ".NAN"),
            ("!!bool", "true", "TRUE"), ("!!bool", "false", "FALSE"), ("!!null", "null", ""),
            ("!!str", "a", "a"), ("!!str", " ", " "), ("!!str", "0b1", "0b1"), ("!!str", "-0x1", "-0x1"), ("!!str", "a\nb\t", "a\nb\t"),
            ("!!str", "", None), ("!!str", "12", None), ("!!str", "~", None), ("!!str", "TRUE", None), ("!!str", ".5", None), ("!!str", "0x1F", None),
            ("!!str", ".inf", None), ("!own", "a", None), ("!own", "1", None), ("!own", "true", None), ("!!bool2", "null", None), ("!int", ".inf", None), ("!a", ".nan", None), ("!!other", "", None), ("!int", "1", None)]
        for tag, content, word in told:
            with self.subTest(tag=tag, content=content):
                self.assertEqual(least_word(tag, content), word)
                if word is not None:
                    self.assertEqual(resolved("scalar", None, "plain", word, "core"), (tag, content))

    def test_all_short_words(self):
        first = {}
        for many in range(4):
            for signs in itertools.product(WORD_SIGNS, repeat=many):
                word = "".join(signs)
                tag = word_tag(word)
                first.setdefault((tag, canonical(tag, word)), word)
        self.assertGreater(len(first), 3000)
        for (tag, content), word in first.items():
            self.assertEqual(least_word(tag, content), content if tag == "!!str" else word)

    def test_longer_words_of_few_signs(self):
        first = {}
        for many in range(7):
            for signs in itertools.product("-.019E", repeat=many):
                word = "".join(signs)
                tag = word_tag(word)
                if tag == "!!float":
                    first.setdefault(canonical(tag, word), word)
        for content, word in first.items():
            told = least_word("!!float", content)
            if set(told) <= set("-.019E"):
                self.assertEqual(told, word)
            else:
                self.assertLess((len(told), told), (len(word), word))

    def test_all_shapes_of_numbers(self):
        chance = random.Random(58)
        powers = [sign * (10 ** many + step) for sign in (1, -1) for many in range(4) for step in range(-2, 3)]
        for many in (1, 2, 3, 8, 9, 10, 11, 12):
            figures = "".join(chance.choice("123456789") for _ in range(many))
            for power in sorted(set(powers + [-many - step for step in range(-3, 14)] + [-many - 100, -many - 99])):
                word = best_of_shapes(figures, power)
                self.assertEqual(least_word("!!float", figures + "e" + str(power)), word)
                self.assertEqual(least_word("!!float", "-" + figures + "e" + str(power)), "-" + word)

    def test_many_figures(self):
        for many in (88, 89, 90, 91, 99, 100, 101):
            figures = "7" * many
            for power in (-98, -99, -100, -101, -109, -110, -111, -many - 10):
                self.assertEqual(least_word("!!float", figures + "e" + str(power)), best_of_shapes(figures, power))
        self.assertEqual(least_word("!!float", "7" * 90 + "e-100"), ".0" + "7" * 90 + "E-9")

    def test_integers(self):
        numbers = list(range(3000))
        for many in range(6, 30):
            for base in (10, 16, 8):
                numbers.extend(base ** many + step for step in range(-2, 3))
            numbers.extend([10 ** many * 16 ** 2, 10 ** many // 7])
        numbers.extend(range(1048570, 1048582))
        for number in numbers:
            words = [str(number), hex(number), "0x" + hex(number)[2:].upper(), oct(number)]
            self.assertEqual(least_word("!!int", str(number)), min(words, key=lambda word: (len(word), word)))
            if number:
                self.assertEqual(least_word("!!int", str(-number)), str(-number))

    def test_read_back(self):
        chance = random.Random(59)
        for _ in range(3000):
            word = "".join(chance.choice("+-.eE0123456789") for _ in range(chance.randrange(1, 12)))
            tag = word_tag(word)
            content = canonical(tag, word)
            least = least_word(tag, content)
            self.assertEqual(resolved("scalar", None, "plain", least, "core"), (tag, content))
            self.assertLessEqual((len(least), least), (len(word), word))

    def test_long_contents(self):
        started = time.perf_counter()
        nines = "9" * 2990
        for tag, content, word in (
                ("!!float", nines + "e0", nines + "."), ("!!float", nines + "e-2990", "." + nines), ("!!float", nines + "e-1", nines[1:] + ".9"),
                ("!!float", nines + "e2", nines + "E2"), ("!!float", "1e" + nines, "1E" + nines), ("!!float", "-1e-" + nines, "-1E-" + nines),
                ("!!float", "1e1" + "0" * 2990, "10E" + nines), ("!!float", "1e-1" + "0" * 2990, ".1E-" + nines), ("!!int", "-" + nines, "-" + nines),
                ("!!str", "a" * 3000, "a" * 3000), ("!!str", "1" * 2999 + "a", "1" * 2999 + "a")):
            self.assertEqual(least_word(tag, content), word)
        number = 16 ** 2000 // 7
        content = canonical("!!int", hex(number))
        self.assertEqual(least_word("!!int", content), "0x" + hex(number)[2:].upper())
        self.assertEqual(canonical("!!int", least_word("!!int", nines)), nines)
        self.assertEqual(least_word("!!float", "7" * 1000 + "e-" + "1" + "0" * 900), "." + "7" * 1000 + "E-" + "9" * 897 + "000")
        self.assertLess(time.perf_counter() - started, 1)

    def test_what_has_no_word_is_refused(self):
        contents = ["", "a", "012", "1.0", "1e3", "10e0", "0x1", "+1", "-0", "1.", "Null", "True", ".Inf", "-.nan", "0e1", "1E0", "1e+0", "1e01"]
        for content in contents + strange.ALL:
            for tag in ("!!int", "!!float", "!!bool", "!!null", "!!seq", "!!map"):
                if not tag_fits("scalar", tag, content, "core"):
                    self.assertTrue(is_refused(least_word, tag, content), (tag, content))
                    self.assertTrue(is_refused(least_word, content=content, tag=tag))
        for tag in strange.ALL + ["!", "!!", "", "int", "!!a b"]:
            if tag != "!!str":
                for content in ("a", "1", "", "null", None):
                    self.assertTrue(is_refused(least_word, tag, content), tag)
        for content in strange.ALL:
            if not isinstance(content, str):
                self.assertTrue(is_refused(least_word, "!!str", content))
                self.assertTrue(is_refused(least_word, "!own", content))
        self.assertEqual(least_word(tag="!!str", content="a"), "a")


class Numbers(unittest.TestCase):
    def told(self, tag, content):
        number = Number(tag, content)
        return number.state, number.figures, number.power

    def test_by_hand(self):
        for tag, content, told in (
                ("!!int", "0", ("finite", 0, 0)), ("!!int", "1000", ("finite", 1, 3)), ("!!int", "-1200", ("finite", -12, 2)), ("!!int", "7", ("finite", 7, 0)),
                ("!!float", "0e0", ("finite", 0, 0)), ("!!float", "1e3", ("finite", 1, 3)), ("!!float", "-1205e-1", ("finite", -1205, -1)),
                ("!!float", "1e999999999", ("finite", 1, 999999999)), ("!!float", "-3e-" + "9" * 400, ("finite", -3, 1 - 10 ** 400)),
                ("!!float", ".inf", ("inf", 1, 0)), ("!!float", "-.inf", ("inf", -1, 0)), ("!!float", ".nan", ("nan", 0, 0))):
            with self.subTest(content=content):
                self.assertEqual(self.told(tag, content), told)
                self.assertIs(type(Number(tag, content).figures), int)
                self.assertIs(type(Number(tag, content).power), int)
        self.assertEqual(Number(content="1", tag="!!int").figures, 1)

    def test_properties_are_only_read(self):
        for name in ("state", "figures", "power"):
            self.assertIsInstance(vars(Number)[name], property)
            with self.assertRaises(AttributeError):
                setattr(Number("!!int", "1"), name, 5)

    def test_equal(self):
        self.assertTrue(Number("!!int", "1000") == Number("!!float", "1e3"))
        self.assertFalse(Number("!!int", "1000") != Number("!!float", "1e3"))
        self.assertTrue(Number("!!int", "0") == Number("!!float", "0e0"))
        self.assertTrue(Number("!!float", ".nan") == Number("!!float", ".nan"))
        self.assertTrue(Number("!!float", ".inf") == Number("!!float", ".inf"))
        others = [("!!int", "0"), ("!!int", "1"), ("!!int", "-1"), ("!!float", "1e1"), ("!!float", "1e-1"), ("!!float", ".inf"), ("!!float", "-.inf"),
                  ("!!float", ".nan"), ("!!float", "1e999999999"), ("!!float", "-1e999999999"), ("!!float", "1e-999999999")]
        for one, other in itertools.permutations(others, 2):
            self.assertFalse(Number(*one) == Number(*other), (one, other))
            self.assertTrue(Number(*one) != Number(*other))
        for thing in strange.ALL + [1, 0, 1.0, Fraction(1), "1", ("finite", 1, 0), Graph([("scalar", "!!int", "1")])]:
            if not isinstance(thing, Number):
                self.assertFalse(Number("!!int", "1") == thing)
                self.assertFalse(thing == Number("!!int", "1"))
                self.assertTrue(Number("!!float", ".nan") != thing)

    def test_against_exact_numbers(self):
        chance = random.Random(57)
        contents = ["0", "0e0", "1", "1e0", "-1", "10", "1e1", "12e-1", "99e-1", "1e2", "999e-1", "1001e-1", "-1e-20", "1e-20", "5e20", "49e19"]
        for _ in range(150):
            word = chance.choice(["", "-"]) + str(chance.randrange(10 ** chance.randrange(1, 8))) + chance.choice(
                ["", ".", ".5", "e{}".format(chance.randrange(-12, 12)), "e0"])
            contents.append(canonical(word_tag(word), word))
        numbers = [(Number("!!float" if "e" in content else "!!int", content), value(content)) for content in contents]
        for (one, exact), (other, wanted) in itertools.product(numbers, repeat=2):
            self.assertIs(is_less(one, other), exact < wanted)
            self.assertIs(one == other, exact == wanted)
            self.assertEqual(one.figures * Fraction(10) ** one.power, exact)

    def test_far_ones(self):
        rising = [("!!float", "-.inf"), ("!!float", "-2e" + "9" * 300), ("!!float", "-1e" + "9" * 300), ("!!float", "-1e999999999"), ("!!int", "-" + "9" * 3000),
                  ("!!float", "-1e1"), ("!!int", "-1"), ("!!float", "-1e-999999999"), ("!!float", "-1e-" + "9" * 300), ("!!int", "0"),
                  ("!!float", "1e-" + "9" * 300), ("!!float", "11e-1" + "0" * 300), ("!!float", "1e-999999999"), ("!!float", "1001e-1000000001"),
                  ("!!float", "1e-1"), ("!!int", "1"), ("!!int", "9" * 2999), ("!!int", "1" + "0" * 2998 + "1"), ("!!float", "11e2998"), ("!!int", "9" * 3000),
                  ("!!float", "1e999999999"), ("!!float", "1000001e999999993"), ("!!float", "11e999999998"), ("!!float", "2e999999999"),
                  ("!!float", "1e1000000000"), ("!!float", "9" * 1500 + "e" + "8" * 1400), ("!!float", "1e" + "9" * 2990), ("!!float", ".inf")]
        started = time.perf_counter()
        numbers = [Number(*told) for told in rising]
        order = [(one, other) for one in range(len(rising)) for other in range(len(rising))]
        for one, other in order:
            self.assertIs(is_less(numbers[one], numbers[other]), one < other, (rising[one], rising[other]))
            self.assertIs(numbers[one] == numbers[other], one == other)
        self.assertLess(time.perf_counter() - started, 3)

    def test_nan(self):
        nan = Number("!!float", ".nan")
        for tag, content in (("!!float", ".nan"), ("!!float", ".inf"), ("!!float", "-.inf"), ("!!int", "0"), ("!!int", "-5"), ("!!float", "1e999999999")):
            self.assertIs(is_less(nan, Number(tag, content)), False)
            self.assertIs(is_less(one=Number(tag, content), other=nan), False)

    def test_what_is_no_number(self):
        contents = ["", "a", "012", "1.0", "10e0", "0x1", "+1", "-0", "1.", ".Inf", "+.inf", "-.nan", "0e1", "1E0", "1e+0", "1e01", "null", "true", " 1", "1\n"]
        for content in contents + strange.ALL:
            for tag in NUMBER_TAGS:
                if not (isinstance(content, str) and canonical(tag, content) == content):
                    self.assertTrue(is_refused(Number, tag, content), (tag, content))
        for tag in strange.ALL + ["!!null", "!!bool", "!!str", "!!seq", "!int", "!!Int", "!!float ", "!", ""]:
            for content in ("1", "1e0", ".inf", "null", "true", "a", None):
                self.assertTrue(is_refused(Number, tag, content), (tag, content))
                self.assertTrue(is_refused(Number, content=content, tag=tag))
        self.assertTrue(is_refused(Number, "!!int", "1e0"))
        self.assertTrue(is_refused(Number, "!!float", "1"))
        for content in SPECIAL:
            self.assertTrue(is_refused(Number, "!!int", content))


if __name__ == "__main__":
    unittest.main()
