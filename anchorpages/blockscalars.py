"""Literal and folded scalars, which stand on lines of their own behind a header."""

from anchorpages.errors import Refused
from anchorpages.signs import FEED, is_mark, is_rest, line_end, mark_reach, past_blanks, past_line

STYLES = {"|": "literal", ">": "folded"}


class Header:
    """The header that begins at a place: what it says, its end, and where the lines begin."""

    def __init__(self, text, place):
        self.style = STYLES[text[place]]
        self.digit = 0
        self.keeping = ""
        self.end = place + 1
        while self.takes(text[self.end:self.end + 1]):
            self.end += 1
        further = past_blanks(text, self.end)
        if not is_rest(text, further, self.end):
            raise Refused(further)
        self.lines = past_line(text, further)

    def takes(self, sign):
        """Whether this sign belongs to the header; it is kept then."""
        if sign in ("+", "-") and self.keeping == "":
            self.keeping = sign
            return True
        if "1" <= sign <= "9" and self.digit == 0:
            self.digit = int(sign)
            return True
        return False


def found_indentation(text, line, above):
    """The indentation of the lines from this one on, where the header tells none."""
    most = above + 1
    while line < len(text):
        place = past_blanks(text, line)
        blanks = place - line
        if text[place:place + 1] in ("", FEED):
            most = max(most, blanks)
            line = place + 1
        elif blanks <= above or is_mark(text, line):
            return most
        elif blanks < most:
            raise Refused(place + (mark_reach(text, place) if blanks == 0 else 0))
        else:
            return blanks
    return most


def content_lines(text, line, deep):
    """The lines of a block scalar from this one on: what they have behind deep blanks,
    "" for an empty one, and whether a line feed ends them; then the place behind them."""
    rows = []
    while line < len(text):
        place = past_blanks(text, line)
        end = line_end(text, place)
        if place == end and end - line <= deep:
            rows.append(("", end < len(text)))
        elif place - line >= deep and not (deep == 0 and is_mark(text, line)):
            rows.append((text[line + deep:end], end < len(text)))
        else:
            break
        line = past_line(text, end)
    return rows, line


def last_content(rows):
    """The index of the last line that is not empty, -1 if there is none."""
    last = len(rows) - 1
    while last >= 0 and rows[last][0] == "":
        last -= 1
    return last


def body_of(rows, folded):
    """The value of lines of which the last one is not empty, without what ends this."""
    parts = []
    feeds = 0
    before = ""
    for row, _ in rows:
        if row == "":
            feeds += 1
            continue
        if before == "":
            parts.append(FEED * feeds)
        elif folded and before[0] not in " \t" and row[0] not in " \t":
            parts.append(FEED * feeds or " ")
        else:
            parts.append(FEED * (feeds + 1))
        parts.append(row)
        before = row
        feeds = 0
    return "".join(parts)


def value_of(rows, folded, keeping):
    """The value of a block scalar with these lines."""
    last = last_content(rows)
    kept = FEED * len([row for row, fed in rows[last + 1:] if fed])
    if last < 0:
        return kept if keeping == "+" else ""
    body = body_of(rows[:last + 1], folded)
    if keeping == "-" or not rows[last][1]:
        return body
    return body + FEED + (kept if keeping == "+" else "")


def read_block_scalar(text, place, above):
    """Of the scalar with its header at this place, in a container that is above blanks deep:
    its value, its style, its end, and the place behind its lines."""
    header = Header(text, place)
    deep = above + header.digit
    if header.digit == 0:
        deep = found_indentation(text, header.lines, above)
    rows, after = content_lines(text, header.lines, deep)
    end = header.end
    line = header.lines
    last = last_content(rows)
    for row, _ in rows[:last + 1]:
        stop = line_end(text, line)
        if row != "":
            end = stop
        line = stop + 1
    return value_of(rows, header.style == "folded", header.keeping), header.style, end, after
