"""Numbers that words are, compared exactly, and the least words for them."""

from anchorpages.core import figures_of, number_of, tag_fits, word_tag
from anchorpages.errors import BadTag

NUMBER_TAGS = ("!!int", "!!float")
# The least word of those with the same meaning, for contents that have only a few words.
FIXED_WORDS = {"null": "", "true": "TRUE", "false": "FALSE", ".nan": ".NAN", ".inf": ".INF", "-.inf": "-.INF"}


class Number:
    """The number of a canonical content: its figures times ten to its power, or infinite, or none."""

    def __init__(self, tag, content):
        if not isinstance(tag, str) or tag not in NUMBER_TAGS or not tag_fits("scalar", tag, content, "core"):
            raise BadTag(0)
        self._state = "finite"
        self._figures = 0
        self._power = 0
        if content == ".nan":
            self._state = "nan"
        elif content in (".inf", "-.inf"):
            self._state = "inf"
            self._figures = -1 if content == "-.inf" else 1
        else:
            figures, power = figures_and_power(content)
            self._figures = signed_number(figures)
            self._power = signed_number(power)

    @property
    def state(self):
        """Whether it is "finite", "inf" or "nan"."""
        return self._state

    @property
    def figures(self):
        """The number without its power: not divisible by ten, or nought."""
        return self._figures

    @property
    def power(self):
        """The power of ten."""
        return self._power

    def __eq__(self, other):
        return (isinstance(other, Number) and self.state == other.state
                and self.figures == other.figures and self.power == other.power)


def is_less(one, other):
    """Whether one number is less than another one."""
    if one.state == "nan" or other.state == "nan":
        return False
    if sign_of(one) != sign_of(other):
        return sign_of(one) < sign_of(other)
    return is_nearer(one, other) if sign_of(one) > 0 else is_nearer(other, one)


def sign_of(number):
    return -1 if number.figures < 0 else 1 if number.figures > 0 else 0


def is_nearer(one, other):
    """Whether a number that is not nan is nearer to nought than another one with its sign."""
    if one.state == "inf" or other.state == "inf":
        return one.state != "inf"
    figures = figures_of(abs(one.figures))
    others = figures_of(abs(other.figures))
    reach = len(figures) + one.power
    other_reach = len(others) + other.power
    if reach != other_reach:
        return reach < other_reach
    # Both have the same power at their first figure, so they differ as texts do; no power is written out.
    return figures < others


def figures_and_power(content):
    """The texts of the figures and of the power of a finite content."""
    figures, mark, power = content.partition("e")
    if mark == "":
        short = figures.rstrip("0")
        power = figures_of(len(figures) - len(short))
        return ("0", "0") if short == "" else (short, power)
    return (figures, power)


def signed_number(text):
    """The integer of a text of figures, perhaps with a minus ahead."""
    return -number_of(text[1:]) if text.startswith("-") else number_of(text)


def signed_figures(number):
    return ("-" if number < 0 else "") + figures_of(abs(number))


def least_word(tag, content):
    """The shortest plain word that is read as this content with this tag, None if there is none."""
    if not tag_fits("scalar", tag, content, "core"):
        raise BadTag(0)
    if tag == "!!str":
        return content if word_tag(content) == "!!str" else None
    if tag in ("!!null", "!!bool") or (tag == "!!float" and content in FIXED_WORDS):
        return FIXED_WORDS[content]
    if tag == "!!int":
        return least_of(whole_words(content))
    return least_of(float_words(content)) if tag == "!!float" else None


def least_of(words):
    """The shortest word, of several the first one by the order of ASCII."""
    return min([(len(word), word) for word in words])[1]


def whole_words(content):
    """Words of an integer, the least one among them."""
    if content.startswith("-"):
        return [content]
    # Three bits are a figure of octal words, so these are longer than the figures themselves.
    return [content, f"0x{number_of(content):X}"]


def float_words(content):
    """Words of a finite number, the least one among them."""
    minus = "-" if content.startswith("-") else ""
    figures, power = figures_and_power(content[len(minus):])
    if figures == "0":
        return [".0"]
    words = words_without_power(figures, signed_number(power)) + words_with_power(figures, signed_number(power))
    return [minus + word for word in words]


def words_without_power(figures, power):
    """The word with nothing but a point, where few noughts stand beside the figures."""
    # More noughts than these are longer than any power that takes their place.
    if power > 9 or power < -9 - len(figures):
        return []
    if power >= 0:
        return [figures + "0" * power + "."]
    body = figures.zfill(-power)
    return [body[:len(body) + power] + "." + body[len(body) + power:]]


def words_with_power(figures, power):
    """The words that may be the least of those with a power."""
    words = []
    # A nought ahead or behind is worth its place where the power has a figure less by it, as in 10E999;
    # a point, where it does not stand ahead of all figures, is not worth it, or a word without power is shorter.
    for ahead in ("", "0"):
        for behind in ("", "0"):
            body = ahead + figures + behind
            words.append(body + "E" + signed_figures(power - len(behind)))
            words.append("." + body + "E" + signed_figures(power - len(behind) + len(body)))
    return words
