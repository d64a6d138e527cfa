"""The signs of texts: their kinds, and ways over some of them."""

FEED = "\n"
BRACKETS = ",[]{}"
MARKS = ("---", "...")
TAG_SIGNS = "ABCDEFGHIJKLMNOPQRSTUVWXYZabcdefghijklmnopqrstuvwxyz0123456789-#;/?:@&=+$_.~*'()"


def is_foreign(sign):
    """Whether no text has this sign."""
    return not (" " <= sign <= "~" or sign == "\t" or sign == FEED)


def is_sign(sign):
    """Whether this is a sign that can be seen; the end of a text, "", is none."""
    return "!" <= sign <= "~"


def is_safe(sign, inside):
    """Whether this may stand in a plain scalar; inside tells of brackets."""
    return is_sign(sign) and not (inside and sign in BRACKETS)


def past_blanks(text, place):
    """The first place from this one on where no blank stands."""
    while text[place:place + 1] == " ":
        place += 1
    return place


def past_white(text, place):
    """The first place from this one on where neither a blank nor a tab stands."""
    while place < len(text) and text[place] in " \t":
        place += 1
    return place


def line_end(text, place):
    """The place of the end of a line, ahead of its line feed."""
    feed = text.find(FEED, place)
    return len(text) if feed < 0 else feed


def past_line(text, place):
    """The begin of the line behind the one of this place, or the end of the text."""
    return min(line_end(text, place) + 1, len(text))


def column_of(text, place):
    """How many signs of its line stand ahead of a place."""
    return place - (text.rfind(FEED, 0, place) + 1)


def is_mark(text, line):
    """Whether the line that begins at this place begins with a mark."""
    return text[line:line + 3] in MARKS and text[line + 3:line + 4] in " \n"


def mark_reach(text, line):
    """With how many signs of the line that begins here a mark could begin."""
    first = text[line:line + 1]
    if first not in ("-", "."):
        return 0
    reach = 1
    while reach < 3 and text[line + reach:line + reach + 1] == first:
        reach += 1
    return reach


def is_rest(text, place, end):
    """Whether a line is over, or only a comment follows, where blanks from end on lead to place."""
    sign = text[place:place + 1]
    return sign in ("", FEED) or (sign == "#" and place > end)
