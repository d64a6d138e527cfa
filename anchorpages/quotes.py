"""Scalars in quotes. flat tells that all is on one line."""

from anchorpages.errors import Refused
from anchorpages.signs import FEED, is_mark, past_white

ESCAPES = {"\"": "\"", "\\": "\\", "/": "/", "n": "\n", "t": "\t", " ": " ", "\t": "\t"}


def past_fold(text, line, deep):
    """Where quotes go on behind a line feed, and the number of empty lines ahead of this."""
    empties = 0
    while True:
        place = line
        while place < line + deep and text[place:place + 1] == " ":
            place += 1
        full = place == line + deep
        if full:
            place = past_white(text, place)
        if text[place:place + 1] != FEED:
            break
        empties += 1
        line = place + 1
    if not full:
        raise Refused(place)
    if is_mark(text, line):
        raise Refused(line + 3)
    return place, empties


def read_white(text, place, deep, flat):
    """What white and the end of a line, from this place on, are in quotes, and where they end."""
    end = past_white(text, place)
    sign = text[end:end + 1]
    if sign == "" or (sign == FEED and flat):
        raise Refused(end)
    if sign != FEED:
        return text[place:end], end
    further, empties = past_fold(text, end + 1, deep)
    return FEED * empties or " ", further


def read_escape(text, place, deep, flat):
    """What the backslash at this place and what is behind it are, and where they end."""
    sign = text[place + 1:place + 2]
    if sign in ESCAPES:
        return ESCAPES[sign], place + 2
    if sign != FEED or flat:
        raise Refused(place + 1)
    further, empties = past_fold(text, place + 2, deep)
    return FEED * empties, further


def read_quoted(text, place, deep, flat):
    """The value and the end of the scalar in quotes that begins at this place."""
    quote = text[place]
    parts = []
    place += 1
    while True:
        sign = text[place:place + 1]
        if sign in ("", " ", "\t", FEED):
            part, place = read_white(text, place, deep, flat)
        elif sign == "\\" and quote == "\"":
            part, place = read_escape(text, place, deep, flat)
        elif sign != quote:
            part, place = sign, place + 1
        elif quote == "'" and text[place + 1:place + 2] == "'":
            part, place = "'", place + 2
        else:
            return "".join(parts), place + 1
        parts.append(part)
