"""Documents and block collections, read line by line without a way back.

What may be a key is told by the `:` behind it alone: it is one if a key can
begin where it begins, and if all of it stands on the line of this `:`. So a
text is refused at the very sign with which no stream goes on.
"""

from anchorpages.blockscalars import read_block_scalar
from anchorpages.brackets import Brackets
from anchorpages.errors import Refused
from anchorpages.names import Props, both_props, dressed, empty_node, name_end
from anchorpages.plains import begins_plain, read_plain
from anchorpages.quotes import read_quoted
from anchorpages.signs import (FEED, column_of, is_mark, is_rest, is_sign, mark_reach,
                               past_blanks, past_line)

# What a document or a collection waits for.
NOTHING = 0   # an entry more, or its end
NODE = 1      # the node of a document, of an entry of a sequence, or behind the `:` of a key
KEY = 2       # the key behind a `?`
COLON = 3     # the `:` of this key
WORTH = 4     # the value behind this `:`

# What may stand on the rest of a line, behind a sign of it.
FRESH = 0     # there is none: a line begins
COMPACT = 1   # also a collection
SINGLE = 2    # no collection but in brackets


class Frame:
    """A document, or a block collection that is not closed yet; a document is -1 blanks deep."""

    def __init__(self, kind, column, wants, behind):
        self.kind = kind
        self.column = column
        self.wants = wants
        self.behind = behind
        self.props = Props()


class Node:
    """A node that has begun on a line, and what it can be yet."""

    def __init__(self, column, may_key, fresh, ahead):
        self.column = column
        self.may_key = may_key      # whether it can be a key
        self.fresh = fresh          # whether this key would begin a mapping
        self.may_be = fresh         # whether it can be a node by itself
        self.ahead = ahead          # the properties on lines ahead
        self.props = Props()        # those on this line
        self.index = 0              # the place of its first event


class Blocks:
    """Reads a stream; what it has found stands in events."""

    def __init__(self, text):
        self.text = text
        self.place = 0
        self.inline = FRESH
        self.events = []
        self.frames = []
        self.last = 0

    def read(self):
        while self.place < len(self.text):
            if self.inline == FRESH:
                self.read_line()
            else:
                self.read_rest()
        if self.frames:
            self.end_document(False)
        return self.events

    def read_line(self):
        """Reads a line, and those that belong to what begins on it."""
        start = self.place
        place = past_blanks(self.text, start)
        if self.text[place:place + 1] in ("", FEED, "#"):
            self.place = past_line(self.text, place)
        elif is_mark(self.text, start):
            self.mark(start)
        elif not self.frames:
            self.begin_document(False, place)
            self.content(place, Node(place - start, True, True, Props()))
        else:
            self.structure(place, place - start)

    def read_rest(self):
        """Reads the rest of a line behind a sign after which a node may come."""
        place = past_blanks(self.text, self.place)
        if is_rest(self.text, place, self.place):
            self.inline = FRESH
            self.place = past_line(self.text, place)
        elif place == self.place:
            raise Refused(place)
        else:
            compact = self.inline == COMPACT
            self.inline = FRESH
            self.content(place, Node(column_of(self.text, place), compact, True, Props()))

    # Documents

    def mark(self, start):
        """Reads the mark with which a line begins."""
        dots = self.text[start] == "."
        if self.frames:
            self.end_document(dots)
        self.place = start + 3
        if dots:
            place = past_blanks(self.text, self.place)
            if not is_rest(self.text, place, self.place):
                raise Refused(place)
            self.place = past_line(self.text, place)
        else:
            self.begin_document(True, self.place)
            self.inline = SINGLE

    def begin_document(self, marked, behind):
        self.events.append(("document", marked))
        self.frames = [Frame("document", -1, NODE, behind)]

    def end_document(self, marked):
        while len(self.frames) > 1:
            self.close()
        if self.frames[0].wants == NODE:
            self.put_empty(self.frames[0])
        self.events.append(("over", marked))
        self.frames = []

    # Entries

    def structure(self, place, column):
        """Reads the line of which the first sign stands here, so many signs behind its begin."""
        top = self.frames[-1]
        if top.wants in (NODE, KEY, WORTH):
            if column > top.column:
                self.content(place, Node(column, True, True, top.props))
                return
            if column == top.column and top.kind == "mapping" and self.is_bare(place, "-"):
                self.begin_collection("sequence", column, place, NODE)
                return
            self.put_empty(top)
        while self.frames[-1].column > column:
            self.close()
        self.entry(place, column)

    def entry(self, place, column):
        """Reads the begin of a further entry of an open collection."""
        top = self.frames[-1]
        dash = self.is_bare(place, "-")
        if top.kind == "sequence" and not dash and top.column == column == self.frames[-2].column:
            self.close()
            top = self.frames[-1]
        reach = mark_reach(self.text, place) if column == 0 else 0
        if top.column != column:
            raise Refused(place + reach)
        if top.kind == "mapping":
            self.further_pair(top, place)
        elif dash:
            self.put_sign(top, NODE, place)
        else:
            raise Refused(place + max(reach, 1 if self.text[place] == "-" else 0))

    def further_pair(self, top, place):
        if top.wants == COLON:
            if self.is_bare(place, ":"):
                self.put_sign(top, WORTH, place)
                return
            self.put_missing(top)
        if self.is_bare(place, "?"):
            self.put_sign(top, KEY, place)
        else:
            self.content(place, Node(top.column, True, False, Props()))

    def is_bare(self, place, sign):
        """Whether this sign stands here, and no other one directly behind it."""
        return self.text[place] == sign and not is_sign(self.text[place + 1:place + 2])

    def put_sign(self, frame, wants, place):
        """Reads the sign at this place, behind which a node or a collection may come."""
        frame.wants = wants
        frame.behind = place + 1
        self.place = place + 1
        self.inline = COMPACT

    def begin_collection(self, kind, column, place, wants):
        """Begins a collection of which the first entry begins with the sign at this place."""
        top = self.frames[-1]
        self.events.append(dressed((kind, None, None, "block", place), top.props))
        self.settle(top)
        self.frames.append(Frame(kind, column, wants, place + 1))
        self.put_sign(self.frames[-1], wants, place)

    def settle(self, frame):
        """Tells a frame that the node for which it waits has come."""
        frame.props = Props()
        frame.wants = COLON if frame.wants == KEY else NOTHING

    def put_empty(self, frame):
        """Puts an empty node for the one for which a frame waits."""
        event = empty_node(frame.props, frame.behind)
        self.events.append(event)
        self.last = event[6]
        self.settle(frame)

    def put_missing(self, frame):
        """Puts the empty value of a key that has no `:`."""
        self.events.append(empty_node(Props(), self.last))
        frame.wants = NOTHING

    def close(self):
        top = self.frames[-1]
        if top.wants not in (NOTHING, COLON):
            self.put_empty(top)
        if top.wants == COLON:
            self.put_missing(top)
        self.events.append(("close", self.last))
        self.frames.pop()

    # Nodes

    def content(self, place, node):
        """Reads what begins at this place."""
        place = self.properties(place, node)
        if place < 0:
            return
        text = self.text
        sign = text[place]
        node.index = len(self.events)
        if sign in "-?" and self.is_bare(place, sign):
            if node.props.start is not None or not node.may_key or not node.may_be:
                raise Refused(place + 1)
            kind, wants = ("sequence", NODE) if sign == "-" else ("mapping", KEY)
            self.begin_collection(kind, node.column, place, wants)
        elif self.is_bare(place, ":"):
            if not node.may_key:
                raise Refused(place + 1)
            self.events.append(empty_node(node.props, place))
            self.last = self.events[-1][6]
            self.begin_value(node, place)
        elif sign in "|>":
            self.block_scalar(node, place)
        elif sign == "*":
            self.alias(node, place)
        else:
            self.single(node, place, sign)

    def properties(self, place, node):
        """Reads properties on a line; returns the place of what is behind them, -1 for a line's end."""
        text = self.text
        while text[place] in "&!":
            if node.ahead.has(text[place]) or node.props.has(text[place]):
                node.may_be = False
            if not node.may_be and not node.may_key:
                raise Refused(place)
            end = node.props.take(text, place)
            place = past_blanks(text, end)
            if is_rest(text, place, end):
                if not node.may_be:
                    raise Refused(place)
                top = self.frames[-1]
                top.props = both_props(node.ahead, node.props)
                self.place = past_line(text, place)
                return -1
            if place == end:
                raise Refused(end)
        return place

    def block_scalar(self, node, place):
        top = self.frames[-1]
        if not node.may_be:
            raise Refused(place)
        value, style, end, after = read_block_scalar(self.text, place, top.column)
        event = ("scalar", None, None, style, value, place, end)
        self.events.append(dressed(event, both_props(node.ahead, node.props)))
        self.last = end
        self.place = after
        self.settle(top)

    def alias(self, node, place):
        if node.ahead.start is not None:
            node.may_be = False
        if node.props.start is not None or not (node.may_be or node.may_key):
            raise Refused(place)
        end = name_end(self.text, place)
        self.events.append(("alias", self.text[place + 1:end], place, end))
        self.decide(node, place, end)

    def single(self, node, place, sign):
        """Reads what is plain, in quotes or in brackets."""
        text = self.text
        deep = self.frames[-1].column + 1
        flat = not node.may_be
        if sign in "[{":
            end = Brackets(text, place, deep, flat, self.events).read()
        elif sign in "\"'":
            value, end = read_quoted(text, place, deep, flat)
            style = "single" if sign == "'" else "double"
            self.events.append(("scalar", None, None, style, value, place, end))
        elif begins_plain(text, place, False):
            value, end = read_plain(text, place, deep, False, flat)
            self.events.append(("scalar", None, None, "plain", value, place, end))
        else:
            raise Refused(place)
        self.decide(node, place, end)

    def decide(self, node, start, end):
        """Tells by what is behind whether that from start to end is a key or a node."""
        self.last = end
        place = past_blanks(self.text, end)
        event = self.events[node.index]
        if self.text[place:place + 1] == ":":
            if not node.may_key or self.text.find(FEED, start, end) >= 0:
                # With one more sign the `:` would have been a part of a plain scalar.
                raise Refused(place + (1 if event[0] == "scalar" and event[3] == "plain" else 0))
            self.events[node.index] = dressed(event, node.props)
            self.begin_value(node, place)
        elif not is_rest(self.text, place, end) or not node.may_be:
            raise Refused(place)
        else:
            self.events[node.index] = dressed(event, both_props(node.ahead, node.props))
            self.place = past_line(self.text, place)
            self.settle(self.frames[-1])

    def begin_value(self, node, place):
        """Reads the `:` at this place behind a key, of which the events are there."""
        top = self.frames[-1]
        if node.fresh:
            key = self.events[node.index]
            start = key[2] if key[0] == "alias" else key[5] if key[0] == "scalar" else key[4]
            mapping = dressed(("mapping", None, None, "block", start), node.ahead)
            self.events.insert(node.index, mapping)
            self.settle(top)
            top = Frame("mapping", node.column, NODE, place + 1)
            self.frames.append(top)
        top.wants = NODE
        top.behind = place + 1
        self.place = place + 1
        self.inline = SINGLE
