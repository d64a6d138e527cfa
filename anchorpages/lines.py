"""Texts of bare events, put together in the order in which they come.

The text of a single node is known when it is over; the lines of a block
collection are begun when it begins.
"""

from anchorpages.rows import COLLECTIONS, is_empty_node
from anchorpages.scalars import text_of_scalar
from anchorpages.signs import FEED, is_mark

DEEPER = 2
BRACKETS = {"sequence": ("[", "]"), "mapping": ("{", "}")}


class Frame:
    """A document or a collection that is not over yet."""

    def __init__(self, kind, form, column):
        self.kind = kind
        self.form = form
        self.column = column    # of the document or block collection in which it is, or which it is
        self.marked = False     # whether a document begins with a mark
        self.begun = False      # whether the line of the next entry has begun
        self.short = False      # whether the newest entry is a short one, behind its `:`
        self.many = 0           # how many nodes have come
        self.props = ""         # of a flow collection, its properties
        self.texts = []         # of a flow collection, those of its entries


class Lines:
    """Takes bare events that can stand one behind another, and keeps their text."""

    def __init__(self, frames):
        self.frames = frames
        self.pieces = []

    def whole(self):
        """All of the text that has been put together."""
        return "".join(self.pieces)

    def take(self, row):
        if row[0] == "document":
            frame = Frame("document", "block", -1)
            frame.marked = row[1]
            self.frames.append(frame)
        elif row[0] == "over":
            self.frames.pop()
            self.pieces.append("..." + FEED if row[1] else "")
        elif row[0] == "close":
            self.end_collection()
        elif row[0] not in COLLECTIONS:
            self.single(single_text(row, self.indent()), needs_blank(row), may_be_short(row))
        elif row[3] == "flow":
            frame = Frame(row[0], "flow", self.frames[-1].column)
            frame.props = properties(row)
            self.frames.append(frame)
        else:
            self.begin_block(row)

    def indent(self):
        """How many blanks the further lines of a scalar have."""
        return self.frames[-1].column + DEEPER

    def end_collection(self):
        frame = self.frames.pop()
        if frame.form == "flow":
            begin, end = BRACKETS[frame.kind]
            self.single(joined(frame.props, begin + ", ".join(frame.texts) + end), False, True)

    def single(self, text, loose, short):
        """Puts the text of a single node; loose tells whether a blank is due ahead of the `:` behind
        it, short whether it may be the key of a short entry."""
        top = self.frames[-1]
        if top.form == "flow":
            put_in_brackets(top, text, loose)
        elif top.kind == "document":
            self.put_document(top, text)
        elif is_key(top) and short and FEED not in text and not (top.column == 0 and text[:4] in ("--- ", "... ")):
            self.begin_entry(top, text + (" :" if loose else ":"))
            top.short = True
        else:
            self.begin_node(top)
            self.pieces.append((" " + text if text else "") + FEED)
        top.many += 1

    def put_document(self, top, text):
        """Puts the single node of a document."""
        if top.marked:
            text = joined("---", text)
        elif is_mark(text, 0):
            text = " " + text
        self.pieces.append(text + FEED)

    def begin_entry(self, top, text):
        """Begins an entry with this text, on a line of its own if none has begun."""
        self.pieces.append(text if top.begun else " " * top.column + text)
        top.begun = False

    def begin_node(self, top):
        """Puts what stands ahead of a node in a block collection, but for the blank."""
        if top.kind == "sequence":
            self.begin_entry(top, "-")
        elif is_key(top):
            self.begin_entry(top, "?")
            top.short = False
        elif not top.short:
            self.begin_entry(top, ":")

    def begin_block(self, row):
        """Begins a block collection: its properties, and what stands ahead of them."""
        top = self.frames[-1]
        head = properties(row)
        frame = Frame(row[0], "block", 0 if top.kind == "document" else top.column + DEEPER)
        if top.kind == "document":
            line = joined("---" if top.marked else "", head)
            self.pieces.append(line + FEED if line else "")
        else:
            self.begin_node(top)
            if head == "" and not top.short:
                self.pieces.append(" ")
                frame.begun = True
            else:
                self.pieces.append((" " + head if head else "") + FEED)
        top.many += 1
        self.frames.append(frame)


def is_key(frame):
    """Whether the next node of a collection is a key."""
    return frame.kind == "mapping" and frame.many % 2 == 0


def put_in_brackets(frame, text, loose):
    """Puts the text of a node into a flow collection."""
    if frame.kind == "sequence":
        frame.texts.append(text)
    elif is_key(frame):
        frame.texts.append(text + (" :" if loose else ":"))
    else:
        frame.texts[-1] = joined(frame.texts[-1], text)


def joined(one, other):
    """Two texts with a blank between, if both have signs."""
    return one + " " + other if one and other else one + other


def properties(row):
    """The text of the properties of a node."""
    anchor = "" if row[1] is None else "&" + row[1]
    return joined(anchor, "" if row[2] is None else row[2])


def single_text(row, indent):
    """The text of a scalar or an alias."""
    if row[0] == "alias":
        return "*" + row[1]
    return joined(properties(row), text_of_scalar(row[4], row[3], "block", indent, 0, DEEPER))


def needs_blank(row):
    """Whether a blank is due ahead of the `:` behind a scalar or an alias as a key."""
    return row[0] == "alias" or (is_empty_node(row) and (row[1] is not None or row[2] is not None))


def may_be_short(row):
    """Whether a scalar or an alias may be the key of a short entry."""
    return row[0] == "alias" or row[3] not in ("literal", "folded")


def stream_text(rows):
    """The text of documents."""
    lines = Lines([])
    for row in rows:
        lines.take(row)
    return lines.whole()


def block_entry_text(rows, kind, column):
    """The lines of an entry of a block collection, each with its line feed."""
    lines = Lines([Frame(kind, "block", column)])
    for row in rows:
        lines.take(row)
    return lines.whole()


def flow_entry_text(rows, kind):
    """The text of an entry of a flow collection, if it has no line feed."""
    lines = Lines([Frame(kind, "flow", 0)])
    for row in rows:
        lines.take(row)
    return lines.frames[0].texts[0]
