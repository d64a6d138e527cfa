"""Collections in brackets, read sign by sign without a way back.

What may be the key of a single pair is told by the `:` behind it alone: it is
one if all of it stands on the line of this `:`.
"""

from anchorpages.errors import Refused
from anchorpages.names import Props, dressed, empty_node, name_end
from anchorpages.plains import begins_plain, read_plain
from anchorpages.quotes import read_quoted
from anchorpages.signs import BRACKETS, FEED, is_mark, is_safe, line_end, past_blanks

# What may come next in a collection.
ENTRY = 0     # an entry or the closing bracket
KEY = 1       # the key behind a `?`
COLON = 2     # behind what may be a key: its `:`, or the end of the entry
VALUE = 3     # the value behind a `:`
OVER = 4      # behind an entry: a comma or the closing bracket

# Whether one more sign behind a `:` would have made it a part of the node ahead.
FIRM = 0      # never
LOOSE = 1     # if no comment stands between
HOLLOW = 2    # always: there are properties alone


class Bracket:
    """A collection that is not closed yet, and how far its newest entry is."""

    def __init__(self, table):
        self.table = table
        self.closing = "}" if table else "]"
        self.step = ENTRY
        self.index = 0
        self.start = 0
        self.paired = False
        self.near = False
        self.behind = 0


class Brackets:
    """Reads the collection that begins at a place; its events are added to the list that is passed."""

    def __init__(self, text, place, deep, flat, events):
        self.text = text
        self.place = place
        self.deep = deep
        self.flat = flat
        self.events = events
        self.line = place
        self.noted = False
        self.ending = FIRM
        self.last = place
        self.stack = []

    def read(self):
        """Returns the place behind the collection."""
        self.enter(Props())
        while self.stack:
            self.skip()
            self.advance(self.stack[-1])
        return self.place

    def enter(self, props):
        """Goes into the collection that begins here."""
        table = self.text[self.place] == "{"
        kind = "mapping" if table else "sequence"
        self.events.append(dressed((kind, None, None, "flow", self.place), props))
        self.stack.append(Bracket(table))
        self.place += 1

    def skip(self):
        """Goes over blanks, comments and ends of lines to the next sign."""
        text = self.text
        place = past_blanks(text, self.place)
        self.noted = False
        while True:
            sign = text[place:place + 1]
            if sign == "#" and text[place - 1] in " \n":
                if self.flat:
                    raise Refused(place)
                self.noted = True
                place = line_end(text, place)
            elif sign == FEED:
                if self.flat:
                    raise Refused(place)
                self.line = place + 1
                place = past_blanks(text, self.line)
            else:
                break
        if sign == "" or (self.line > self.place and place - self.line < self.deep):
            raise Refused(place)
        self.place = place

    def advance(self, frame):
        """Reads the next sign, and what it begins."""
        sign = self.text[self.place]
        bare = not is_safe(self.text[self.place + 1:self.place + 2], True)
        if sign == "," or sign == frame.closing:
            self.end_entry(frame, sign)
        elif frame.step == OVER:
            raise Refused(self.place + self.lead(sign))
        elif frame.step == COLON:
            self.colon(frame, sign, bare)
        elif frame.step == VALUE:
            if not frame.near and self.place == frame.behind:
                raise Refused(self.place)
            self.content(frame, OVER)
        elif frame.step == KEY:
            if sign == ":" and bare:
                self.hollow_key(frame)
            else:
                self.content(frame, COLON)
        else:
            self.entry(frame, sign, bare)

    def lead(self, sign):
        """How many signs from here on could go on, had others followed."""
        loose = self.ending == HOLLOW or (self.ending == LOOSE and not self.noted)
        return 1 if sign == ":" and loose else 0

    def entry(self, frame, sign, bare):
        """Begins an entry."""
        frame.index = len(self.events)
        frame.start = self.place
        frame.paired = frame.table
        if sign == "?" and bare:
            if self.text[self.place + 1:self.place + 2] not in ("", " ", FEED):
                raise Refused(self.place + 1)
            self.pair_up(frame)
            self.place += 1
            frame.behind = self.place
            frame.step = KEY
        elif sign == ":" and bare:
            self.hollow_key(frame)
        else:
            self.content(frame, COLON)

    def pair_up(self, frame):
        """Makes the newest entry a pair, with an event of its own in a sequence."""
        if not frame.paired:
            self.events.insert(frame.index, ("mapping", None, None, "flow", frame.start))
            frame.paired = True

    def hollow_key(self, frame):
        """Reads the `:` here, with an empty key ahead of it."""
        self.pair_up(frame)
        self.put(empty_node(Props(), self.place), self.place)
        frame.near = False
        self.to_value(frame)

    def to_value(self, frame):
        self.place += 1
        frame.behind = self.place
        frame.step = VALUE

    def colon(self, frame, sign, bare):
        """Reads the `:` behind a key."""
        if sign != ":":
            raise Refused(self.place)
        if not frame.paired and frame.start < self.line:
            raise Refused(self.place + self.lead(sign))
        if not frame.near and not bare:
            raise Refused(self.place + 1)
        self.pair_up(frame)
        self.to_value(frame)

    def end_entry(self, frame, sign):
        """Ends an entry at a comma or a closing bracket."""
        if frame.step == ENTRY and sign == ",":
            raise Refused(self.place)
        if frame.step == KEY:
            self.put(empty_node(Props(), frame.behind), frame.behind)
            frame.step = COLON
        if frame.step == COLON and frame.paired:
            self.put(empty_node(Props(), self.last), self.last)
        elif frame.step == VALUE:
            self.put(empty_node(Props(), frame.behind), frame.behind)
        if frame.step != ENTRY and frame.paired and not frame.table:
            self.events.append(("close", self.last))
        self.place += 1
        frame.step = ENTRY
        if sign != ",":
            self.put(("close", self.place), self.place)
            self.stack.pop()

    def put(self, event, last):
        """Adds the last event of a node that ends at this place."""
        self.events.append(event)
        self.last = last
        self.ending = FIRM

    def content(self, frame, step):
        """Reads a node, or its begin if it is a collection; then the frame is at this step."""
        props = self.properties()
        sign = self.text[self.place]
        frame.step = step
        frame.near = sign in ("\"", "'", "[", "{")
        if sign in ("[", "{"):
            self.enter(props)
        elif frame.near:
            style = "single" if sign == "'" else "double"
            value, end = read_quoted(self.text, self.place, self.deep, self.flat)
            self.scalar(props, style, value, end)
        elif sign == "*" and props.start is None:
            end = name_end(self.text, self.place)
            self.put(("alias", self.text[self.place + 1:end], self.place, end), end)
            self.place = end
        elif begins_plain(self.text, self.place, True):
            if self.place == self.line and is_mark(self.text, self.place):
                raise Refused(self.place + 3)
            value, end = read_plain(self.text, self.place, self.deep, True, self.flat)
            self.scalar(props, "plain", value, end)
            self.ending = LOOSE
        elif props.start is not None and sign in ",]}:":
            self.put(empty_node(props, self.place), props.end)
            self.ending = HOLLOW
        else:
            raise Refused(self.place + (1 if sign in "-?:" else 0))

    def scalar(self, props, style, value, end):
        """Puts a scalar that stands from here up to this end."""
        event = ("scalar", None, None, style, value, self.place, end)
        self.put(dressed(event, props), end)
        feed = self.text.rfind(FEED, self.place, end)
        if feed >= 0:
            self.line = feed + 1
        self.place = end

    def properties(self):
        """Reads the properties that stand here, and goes to what is behind them."""
        props = Props()
        while self.text[self.place] in "&!":
            end = props.take(self.text, self.place)
            self.place = end
            sign = self.text[end:end + 1]
            if sign in ("", " ", FEED):
                self.skip()
            elif sign in BRACKETS and sign not in "[{":
                break
            else:
                raise Refused(end)
        return props
