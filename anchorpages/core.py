"""Tags and schemas, and what plain words mean."""

from anchorpages.errors import BadTag, NoSchema
from anchorpages.signs import TAG_SIGNS

FIGURES = "0123456789"
NULLS = ("", "~", "null", "Null", "NULL")
TRUES = ("true", "True", "TRUE")
FALSES = ("false", "False", "FALSE")
INFINITIES = (".inf", ".Inf", ".INF")
NANS = (".nan", ".NaN", ".NAN")
COLLECTION_TAGS = ("!!seq", "!!map")
WORD_TAGS = ("!!null", "!!bool", "!!int", "!!float")
PIECE = 10 ** 60


def word_tag(word):
    """The tag whose form a word has."""
    for tag in WORD_TAGS:
        if canonical(tag, word) is not None:
            return tag
    return "!!str"


def canonical(tag, word):
    """The canonical text of a word by a tag, None if the word does not have its form."""
    if tag in COLLECTION_TAGS:
        return None
    if tag == "!!null":
        return "null" if word in NULLS else None
    if tag == "!!bool":
        return "true" if word in TRUES else "false" if word in FALSES else None
    if tag == "!!int":
        return whole_text(word)
    if tag == "!!float":
        return float_text(word)
    return word


def resolved(kind, tag, style, value, schema, *, place=0):
    """The tag and the content of a node, by what is written; place is that of the error."""
    check_schema(schema)
    if not may_have(kind, tag, schema):
        raise BadTag(place)
    if kind != "scalar":
        if tag is None or tag == "!":
            return ("!!seq" if kind == "sequence" else "!!map", "")
        return (tag, "")
    if tag == "!" or (tag is None and (style != "plain" or schema == "text")):
        return ("!!str", value)
    if schema == "text":
        return (tag, value)
    if tag is None:
        tag = word_tag(value)
    content = canonical(tag, value)
    if content is None:
        raise BadTag(place)
    return (tag, content)


def tag_fits(kind, tag, content, schema):
    """Whether a node of this kind may have this tag and content in a graph."""
    check_schema(schema)
    if not is_tag(tag) or not may_have(kind, tag, schema):
        return False
    if kind != "scalar":
        return True
    return isinstance(content, str) and (schema == "text" or canonical(tag, content) == content)


def tag_needed(kind, tag, content, style, schema, *, place=0):
    """The least tag to be written with a node that is to have this tag and content."""
    check_schema(schema)
    if not tag_fits(kind, tag, content, schema):
        raise BadTag(place)
    wanted = (tag, content if kind == "scalar" else "")
    for least in (None, "!"):
        if resolved(kind, least, style, content, schema) == wanted:
            return least
    return tag


def check_schema(schema):
    if not (isinstance(schema, str) and schema in ("core", "text")):
        raise NoSchema(schema)


def is_tag(thing):
    """Whether this is a tag of a node in a graph."""
    if not isinstance(thing, str) or not thing.startswith("!"):
        return False
    name = thing[2:] if thing.startswith("!!") else thing[1:]
    return is_all(name, TAG_SIGNS)


def may_have(kind, tag, schema):
    """Whether nodes of this kind may have a tag, whatever their content."""
    if kind == "scalar":
        return tag not in COLLECTION_TAGS
    if tag == ("!!map" if kind == "sequence" else "!!seq") or tag == "!!str":
        return False
    return schema == "text" or tag not in WORD_TAGS


def is_all(word, signs):
    """Whether a word has at least one sign, and none but these."""
    return word != "" and all([sign in signs for sign in word])


def unsigned(word):
    """A word without the sign ahead of it."""
    return word[1:] if word.startswith("+") or word.startswith("-") else word


def whole_text(word):
    """The canonical text of an integer, None if the word is none."""
    if word.startswith("0o") and is_all(word[2:], "01234567"):
        return figures_of(int(word[2:], 8))
    if word.startswith("0x") and is_all(word[2:], "0123456789abcdefABCDEF"):
        return figures_of(int(word[2:], 16))
    figures = unsigned(word)
    if not is_all(figures, FIGURES):
        return None
    short = figures.lstrip("0")
    if short == "":
        return "0"
    return "-" + short if word.startswith("-") else short


def float_text(word):
    """The canonical text of a number with a point or an exponent, None if the word is none."""
    if word in NANS:
        return ".nan"
    body = unsigned(word)
    minus = "-" if word.startswith("-") else ""
    if body in INFINITIES:
        return minus + ".inf"
    ahead, mark, exponent = body.replace("E", "e").partition("e")
    whole, _, part = ahead.partition(".")
    if not is_all(whole + part, FIGURES):
        return None
    if mark != "" and not is_all(unsigned(exponent), FIGURES):
        return None
    figures = (whole + part).lstrip("0")
    if figures == "":
        return "0e0"
    short = figures.rstrip("0")
    power = number_of(unsigned(exponent)) if mark != "" else 0
    if exponent.startswith("-"):
        power = -power
    power = power - len(part) + len(figures) - len(short)
    return minus + short + "e" + ("-" if power < 0 else "") + figures_of(abs(power))


# Python itself refuses to turn very long figures into numbers, and back; so this is done in pieces.


def number_of(figures):
    """The number that has these figures, one at least."""
    first = len(figures) - len(figures) // 60 * 60
    number = int(figures[:first]) if first else 0
    for place in range(first, len(figures), 60):
        number = number * PIECE + int(figures[place:place + 60])
    return number


def figures_of(number):
    """The figures of a number that is not below 0."""
    pieces = []
    while number >= PIECE:
        number, low = divmod(number, PIECE)
        pieces.append(str(low).zfill(60))
    pieces.append(str(number))
    return "".join(pieces[::-1])
