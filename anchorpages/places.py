"""Where nodes and entries stand in a text, and for which nodes its aliases stand."""

from anchorpages.composing import begin_of
from anchorpages.names import name_end, tag_end
from anchorpages.reader import read
from anchorpages.rows import COLLECTIONS
from anchorpages.scalars import is_whole
from anchorpages.signs import FEED, column_of, line_end, past_blanks, past_line

NOWHERE = -1
# How many nodes an entry has; a document has no entries.
NODES = {"document": 0, "sequence": 1, "mapping": 2}
# Which part of the last event of a node tells the place at which the node ends.
END_PARTS = {"alias": 3, "scalar": 6, "close": 1}


class Entry:
    """An entry of a collection: its first and its last event, and where it begins and ends."""

    def __init__(self, first, last, start, stop):
        self.first = first
        self.last = last
        self.start = start
        self.stop = stop


class Sheet:
    """A text, its events, and which node is in which collection or document.

    Nodes and documents are told by the index of the event with which they begin.
    """

    def __init__(self, text):
        self.text = text
        self.events = read(text)
        self.outer = {}     # of a node, the collection or document that it is in
        self.inner = {}     # of a collection or document, the nodes in it
        self.lasts = {}     # of a node or document, its last event
        self.look_through()

    def look_through(self):
        begun = []
        for index, event in enumerate(self.events):
            if event[0] in ("close", "over"):
                self.lasts[begun.pop()] = index
                continue
            if begun:
                self.outer[index] = begun[-1]
                self.inner[begun[-1]].append(index)
            if event[0] in ("scalar", "alias"):
                self.lasts[index] = index
            else:
                self.inner[index] = []
                begun.append(index)

    def has_event(self, k):
        return is_whole(k, 0, len(self.events) - 1)

    def is_collection(self, k):
        """Whether this is the index of an event with which a collection begins."""
        return self.has_event(k) and self.events[k][0] in COLLECTIONS

    def is_flow(self, index):
        """Whether a document or collection is a flow collection."""
        return self.events[index][0] in COLLECTIONS and self.events[index][3] == "flow"

    def is_bare_pair(self, index):
        """Whether a collection is a flow mapping without brackets."""
        event = self.events[index]
        if event[0] != "mapping" or event[3] != "flow" or event[1] is not None or event[2] is not None:
            return False
        # A key in brackets of its own begins where its pair does.
        start = begin_of(event)
        return self.text[start] != "{" or start in [begin_of(self.events[node]) for node in self.inner[index]]

    def targets(self, index, events):
        """For each alias in the document of a node the node for which it stands, by the names that
        these events have; they are as many as those of the text."""
        while index in self.outer:
            index = self.outer[index]
        names = {}
        found = {}
        for at in range(index + 1, self.lasts[index]):
            event = events[at]
            if event[0] == "alias":
                found[at] = names.get(event[1], NOWHERE)
            elif event[0] != "close" and event[1] is not None:
                names[event[1]] = at
        return found

    # Places

    def end_of(self, index):
        """The place at which a node ends."""
        event = self.events[self.lasts[index]]
        return event[END_PARTS[event[0]]]

    def past_properties(self, index):
        """The place of the first sign of a node behind its properties, and what parts it from these."""
        event = self.events[index]
        place = begin_of(event)
        for part in event[1:3]:
            if part is not None:
                place = past_property(self.text, place)
        return place

    def anchor_name(self, index):
        """The place of the name in the anchor of a node that has one."""
        place = begin_of(self.events[index])
        return 1 + (place if self.text[place] == "&" else past_property(self.text, place))

    # Entries

    def spot_of(self, k):
        """The collection of the entry that event k begins, and the number of the entry in it; None if
        it begins none."""
        if not self.has_event(k) or k not in self.outer:
            return None
        index = self.outer[k]
        many = NODES[self.events[index][0]]
        at = self.inner[index].index(k)
        return None if many == 0 or at % many > 0 else (index, at // many)

    def entries(self, index):
        """The entries of a collection."""
        nodes = self.inner[index]
        many = NODES[self.events[index][0]]
        place = self.first_place(index)
        found = []
        for at in range(0, len(nodes), many):
            last = nodes[at + many - 1]
            stop = self.end_of(last)
            found.append(Entry(nodes[at], self.lasts[last], place, stop))
            place = past_gap(self.text, stop)
            if self.is_flow(index) and self.text[place:place + 1] == ",":
                place = past_gap(self.text, place + 1)
        return found

    def first_place(self, index):
        """The place at which the first entry of a collection begins, if it has one."""
        place = self.past_properties(index)
        if self.is_flow(index) and not self.is_bare_pair(index):
            place = past_gap(self.text, place + 1)
        return place

    def entry_column(self, index):
        """How many signs stand ahead of the entries of a block collection in their lines."""
        return column_of(self.text, self.first_place(index))

    def line_of(self, entry):
        """The begin of the line in which an entry begins."""
        return entry.start - column_of(self.text, entry.start)

    def is_compact(self, entry):
        """Whether other signs than blanks stand ahead of an entry of a block collection in its line."""
        return past_blanks(self.text, self.line_of(entry)) < entry.start

    def past_lines(self, entry):
        """The place behind the lines of an entry of a block collection."""
        text = self.text
        place = past_line(text, entry.stop)
        if self.ends_with_block_scalar(entry):
            while place < len(text) and past_blanks(text, place) == line_end(text, place):
                place = past_line(text, place)
        return place

    def ends_with_block_scalar(self, entry):
        index = entry.last
        while self.events[index][0] == "close":
            index -= 1
        return self.events[index][0] == "scalar" and self.events[index][3] in ("literal", "folded")


def past_property(text, place):
    """The place behind the anchor or tag that begins here, and what parts it from the next sign."""
    return past_gap(text, name_end(text, place) if text[place] == "&" else tag_end(text, place))


def past_gap(text, place):
    """The first place from here on, behind a node or a sign, where no blank, line feed or comment stands."""
    while text[place:place + 1] in (" ", FEED, "#"):
        place = line_end(text, place) if text[place] == "#" else place + 1
    return place
