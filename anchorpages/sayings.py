"""Rows of logs and what is said to pages: their forms, and texts in quotes."""

from anchorpages.core import FIGURES, is_all
from anchorpages.signs import FEED

# What stands behind the first word of each row, with blanks between.
SAYINGS = {
    "page": ("text",),
    "rename": ("number", "word"),
    "rewrite": ("number", "word", "text"),
    "drop": ("number",),
    "put": ("number", "number", "text"),
    "undo": (),
    "redo": (),
    "text": (),
    "count": (),
    "event": ("number",),
}
MOST_FIGURES = 9
ESCAPED = {"\\": "\\", "\"": "\"", "n": "\n", "t": "\t"}


def quoted(text):
    """A text in quotes, on one line."""
    text = text.replace("\\", "\\\\").replace("\"", "\\\"")
    return "\"" + text.replace(FEED, "\\n").replace("\t", "\\t") + "\""


def unquoted(word):
    """The text that is in quotes, None if it is not."""
    if word[:1] != "\"":
        return None
    end = len(word) - 1
    place = 1
    pieces = []
    while place < end:
        sign = word[place]
        if sign in "\"\n\t":
            return None
        if sign == "\\":
            place += 1
            sign = ESCAPED.get(word[place])
            if sign is None:
                return None
        pieces.append(sign)
        place += 1
    return "".join(pieces) if place == end and word[end] == "\"" else None


def number_of_word(word):
    """The number that these figures are, None if they are none."""
    if not is_all(word, FIGURES) or len(word) > MOST_FIGURES or (word[0] == "0" and word != "0"):
        return None
    return int(word)


def parts_of(row):
    """The first word of a row and what stands behind it, None if this is no row."""
    if not isinstance(row, str):
        return None
    verb = row.partition(" ")[0]
    if verb not in SAYINGS:
        return None
    forms = SAYINGS[verb]
    words = row.split(" ", len(forms))
    if words[0] != verb or len(words) != len(forms) + 1:
        return None
    parts = [verb]
    for form, word in zip(forms, words[1:]):
        parts.append(part_of(word, form))
    return None if None in parts else parts


def part_of(word, form):
    """What a word of a row tells, None if it has not this form."""
    if form == "number":
        return number_of_word(word)
    if form == "text":
        return unquoted(word)
    return None if word == "" or " " in word or FEED in word else word


def told_event(event):
    """An event on one line."""
    return " ".join([told_part(part) for part in event])


def told_part(part):
    if part is None:
        return "none"
    if part is True:
        return "yes"
    if part is False:
        return "no"
    return quoted(part) if isinstance(part, str) else str(part)
