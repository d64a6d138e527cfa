"""Plain scalars. inside tells of brackets, flat that all is on one line."""

from anchorpages.errors import Refused
from anchorpages.signs import FEED, is_mark, is_safe, is_sign, past_blanks

NOT_FIRST = ",[]{}#&*!|>'\"@`"


def begins_plain(text, place, inside):
    """Whether a plain scalar can begin at this place."""
    sign = text[place:place + 1]
    if sign in ("-", "?", ":"):
        return is_safe(text[place + 1:place + 2], inside)
    return is_sign(sign) and sign not in NOT_FIRST


def goes_on(text, place, inside):
    """Whether a plain scalar that has begun has the sign at this place."""
    sign = text[place:place + 1]
    if sign == ":":
        return is_safe(text[place + 1:place + 2], inside)
    if sign == "#":
        return place > 0 and is_sign(text[place - 1])
    return is_safe(sign, inside)


def row_end(text, place, inside):
    """The end of a plain scalar's part on one line, read from this place on."""
    further = past_blanks(text, place)
    while goes_on(text, further, inside):
        place = further + 1
        further = past_blanks(text, place)
    return place


def further_row(text, end, deep, inside):
    """Where a plain scalar goes on behind its line, -1 if it does not; and the empty lines between."""
    place = past_blanks(text, end)
    if text[place:place + 1] != FEED:
        return -1, 0
    empties = -1
    while text[place:place + 1] == FEED:
        empties += 1
        line = place + 1
        place = past_blanks(text, line)
    if place - line < deep:
        return -1, 0
    if is_mark(text, line):
        if inside:
            raise Refused(line + 3)
        return -1, 0
    if goes_on(text, place, inside):
        return place, empties
    if text[place:place + 1] == ":" and not inside:
        # No key stands so deep, but one more sign would have made this a part of the scalar.
        raise Refused(place + 1)
    return -1, 0


def read_plain(text, place, deep, inside, flat):
    """The value and the end of the plain scalar that begins at this place."""
    end = row_end(text, place + 1, inside)
    parts = [text[place:end]]
    while not flat:
        further, empties = further_row(text, end, deep, inside)
        if further < 0:
            break
        end = row_end(text, further + 1, inside)
        parts.append(FEED * empties or " ")
        parts.append(text[further:end])
    return "".join(parts), end
