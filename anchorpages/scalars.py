"""Which values fit which styles, their texts, and what texts of scalars are read as."""

from anchorpages.blockscalars import read_block_scalar
from anchorpages.errors import NoFit, NoStyle, Refused
from anchorpages.layout import block_text, line_text
from anchorpages.plains import begins_plain, read_plain
from anchorpages.quotes import read_quoted
from anchorpages.signs import BRACKETS, FEED, is_foreign, is_safe

STYLES = ("plain", "single", "double", "literal", "folded")
CONTEXTS = ("block", "key", "flow", "pair")
INSIDE = ("flow", "pair")
FLAT = ("key", "pair")
BEGINS = {"plain": "", "single": "'", "double": "\"", "literal": "|", "folded": ">"}
MOST_SIGNS = 3000


def fits(value, style, context):
    """Whether some text in this style and context is read as this value."""
    check(is_value(value), "value")
    check_style(style, context)
    return has_text(value, style, context)


def written(value, style, context, indent, width=0, deep=1):
    """The text of a value; raises NoFit if there is none."""
    check(is_value(value), "value")
    check_style(style, context)
    check(is_whole(indent, 0, 100), "indent")
    check(is_whole(width, 0, 200), "width")
    check_deep(deep, indent)
    if not has_text(value, style, context):
        raise NoFit()
    return text_of_scalar(value, style, context, indent, width, deep)


def read_scalar(text, style, context, indent, deep=1):
    """The value as which a text is read from its first sign to its last, None if it is not."""
    check_style(style, context)
    check(is_whole(indent, 0, 100), "indent")
    check_deep(deep, indent)
    if not is_text(text) or not text.startswith(BEGINS[style]):
        return None
    try:
        return value_read(text, style, context, indent, deep)
    except Refused:
        return None


def least(value, context, indent):
    """The style and the text of a value that has the fewest signs."""
    check(is_value(value), "value")
    check(is_word(context, CONTEXTS), "context")
    check(is_whole(indent, 0, 100), "indent")
    best = ("", "")
    for style in STYLES:
        if has_text(value, style, context):
            text = text_of_scalar(value, style, context, indent, 0, 1)
            if best[0] == "" or len(text) < len(best[1]):
                best = (style, text)
    return best


def check(holds, part):
    if not holds:
        raise NoStyle(part)


def check_style(style, context):
    check(is_word(style, STYLES), "style")
    check(is_word(context, CONTEXTS), "context")


def check_deep(deep, indent):
    check(is_whole(deep, 1, min(9, indent + 1)), "deep")


def is_text(thing):
    """Whether this is a string without foreign signs."""
    return isinstance(thing, str) and not any([is_foreign(sign) for sign in thing])


def is_value(thing):
    return is_text(thing) and len(thing) <= MOST_SIGNS


def is_word(thing, words):
    return isinstance(thing, str) and thing in words


def is_whole(thing, low, high):
    return isinstance(thing, int) and not isinstance(thing, bool) and low <= thing <= high


def has_text(value, style, context):
    """Whether a value fits; all arguments are as told."""
    if style == "plain":
        return fits_plain(value, context in INSIDE, context in FLAT)
    if style == "single":
        return not (has_white_beside_feed(value) or (context in FLAT and FEED in value))
    return style == "double" or context == "block"


def has_white_beside_feed(value):
    return any([pair in value for pair in (" \n", "\n ", "\t\n", "\n\t")])


def fits_plain(value, inside, flat):
    """Whether a plain scalar can have this value."""
    if value == "" or value != value.strip(" \n") or "\t" in value:
        return False
    if has_white_beside_feed(value) or (flat and FEED in value):
        return False
    # Behind a key that is on one line stands its `:`, which is a safe sign.
    text = value + (":" if flat else "")
    if not begins_plain(text, 0, inside):
        return False
    for place, sign in enumerate(value):
        if sign == ":" and not is_safe(text[place + 1:place + 2], inside):
            return False
        if sign == "#" and text[place - 1] in " \n":
            return False
        if inside and sign in BRACKETS:
            return False
    return True


def text_of_scalar(value, style, context, indent, width, deep):
    """The text of a value that fits."""
    if style in ("literal", "folded"):
        return block_text(value, style == "folded", indent, width if style == "folded" else 0, deep)
    return line_text(value, style, indent, 0 if context in FLAT else width)


def block_value(whole, above):
    """The value of the block scalar with its header at place 1, and the place behind its lines."""
    found = read_block_scalar(whole, 1, above)
    return found[0], found[3]


def value_read(text, style, context, indent, deep):
    """The value of a text without foreign signs, which begins as its style asks; or None."""
    inside = context in INSIDE
    flat = context in FLAT
    # The sign ahead keeps the text from the begin of a line; what is behind ends the scalar.
    behind = ": " if flat else "]" if inside else FEED
    whole = " " + text + behind
    end = len(text) + 1
    if style in ("literal", "folded"):
        if context != "block":
            return None
        value, stop = block_value(whole, indent - deep)
        end = len(whole)
    elif style == "plain":
        if not begins_plain(whole, 1, inside):
            return None
        value, stop = read_plain(whole, 1, indent, inside, flat)
    else:
        value, stop = read_quoted(whole, 1, indent, flat)
    return value if stop == end else None
