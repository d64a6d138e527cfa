"""A second, plain way to tell the changes of a text, from the rules of stage 2 (stage2_rules.py), which are
made to tell with each entry where it begins. Errors are tuples of a class and what it tells."""

from anchorpages.errors import (Captured, Needed, NoAnchor, NoCollection, NoEntry, NoEvents, NoName, NoPlace, NoScalar, NoStyle, NoValue, Refused,
                                Spoilt)
from anchorpages.reader import refused
from anchorpages.scalars import fits, written
from tests import plain_writing
from tests.stage2_rules import NoStream, Rules, stream


class First(tuple):
    """The first event of an entry, with the place at which the entry begins."""

    begin = None


def begun(found, place):
    """What a rule found, with its first event as that of an entry that begins there."""
    if found is None:
        return None
    event = First(found[1][0])
    event.begin = place
    return (found[0], [event] + found[1][1:]) + found[2:]


class EntryRules(Rules):
    def dash(self, m, p):
        return begun(super().dash(m, p), p)

    def both(self, m, p):
        return begun(super().both(m, p), p)

    def item(self, n, c, p):
        return begun(super().item(n, c, p), p)

    def entry(self, n, c, p):
        return begun(super().entry(n, c, p), p)


def events_of(text):
    try:
        return EntryRules(text).stream()
    except NoStream:
        return None


def bare(events):
    many = {"document": 2, "over": 2, "scalar": 5, "alias": 2, "sequence": 4, "mapping": 4, "close": 1}
    return [tuple(event)[:many[event[0]]] for event in events]


class Node:
    def __init__(self, event, first, outer):
        self.event = event
        self.kind = event[0]
        self.form = event[3] if self.kind in ("sequence", "mapping") else None
        self.first = first
        self.outer = outer
        self.parts = []
        self.last = first
        self.start = {"alias": 2, "scalar": 5}.get(self.kind, 4)
        self.start = event[self.start] if self.kind != "document" else None
        self.end = event[-1]

    def entries(self):
        """Lists of the nodes of each entry."""
        many = 1 if self.kind == "sequence" else 2
        return [self.parts[at:at + many] for at in range(0, len(self.parts), many)]

    def is_open(self):
        return self.kind == "mapping" and self.form == "flow" and bool(self.parts) and not isinstance(self.parts[0].event, First)


def nodes_of(events):
    """All nodes and documents, by the index of their first event."""
    found = {}
    top = None
    for index, event in enumerate(events):
        if event[0] in ("close", "over"):
            top.last = index
            top.end = event[1]
            top = top.outer
            continue
        node = Node(event, index, top)
        found[index] = node
        if top is not None:
            top.parts.append(node)
        if event[0] in ("document", "sequence", "mapping"):
            top = node
    return found


def document(node):
    while node.outer is not None:
        node = node.outer
    return node


def aliases(events, nodes, node):
    """Pairs of the indexes of each alias in the document of a node and of its node, None if it has none."""
    whole = document(node)
    found = []
    for index in range(whole.first + 1, whole.last):
        if events[index][0] == "alias":
            stands = [at for at in range(whole.first + 1, index) if events[at][0] in ("scalar", "sequence", "mapping") and events[at][1] == events[index][1]]
            found.append((index, max(stands, default=None)))
    return found


def done(text, changes, due, k):
    """The changes, or Spoilt."""
    rows = text
    for start, end, new in changes[::-1]:
        rows = rows[:start] + new + rows[end:]
    events = stream(rows)
    return changes if events is not None and bare(events) == due else (Spoilt, k)


def lines_of(text):
    """Where each line begins and ends, its line feed in it."""
    found = []
    place = 0
    for line in text.split("\n"):
        found.append((place, min(place + len(line) + 1, len(text))))
        place += len(line) + 1
    return found


def line_at(text, place):
    """The number of the line in which a place, or the end of something, is."""
    return text.count("\n", 0, place)


def last_scalar(nodes):
    """The last node in the last one of these, through all collections."""
    node = nodes[-1]
    while node.parts:
        node = node.parts[-1]
    return node


def lines_of_entry(text, entry):
    lines = lines_of(text)
    first = line_at(text, entry[0].event.begin)
    last = line_at(text, entry[-1].end)
    if last_scalar(entry).kind == "scalar" and last_scalar(entry).event[3] in ("literal", "folded"):
        while last + 1 < len(lines) and text[slice(*lines[last + 1])].strip(" \n") == "":
            last += 1
    return lines[first][0], lines[last][1]


def is_compact(text, entries, number):
    begin = entries[number][0].event.begin
    return number == 0 and text[lines_of(text)[line_at(text, begin)][0]:begin].strip(" ") != ""


def column(text, node):
    begin = node.parts[0].event.begin
    return begin - lines_of(text)[line_at(text, begin)][0]


def comma_behind(text, place):
    """The place of the comma behind an entry, None if there is none."""
    while text[place] in " \n#":
        if text[place] == "#":
            place = text.index("\n", place)
        place += 1
    return place if text[place] == "," else None


def asked(text, k):
    """The events of a text, None if it is no stream, its nodes, and the one that begins with event k, if one does."""
    events = events_of(text)
    nodes = {} if events is None else nodes_of(events)
    return events, nodes, nodes.get(k) if type(k) is int else None


def dropped(text, k):
    events, nodes, node = asked(text, k)
    if events is None:
        return Refused, refused(text)
    entry = None
    if node is not None and node.outer is not None and node.outer.kind != "document":
        for number, each in enumerate(node.outer.entries()):
            if each[0] is node:
                entry = each
                break
    if entry is None:
        return NoEntry, k
    outer = node.outer
    first, last = entry[0].first, entry[-1].last
    for alias, stands in aliases(events, nodes, node):
        if not first <= alias <= last and stands is not None and first <= stands <= last:
            return Needed, events[alias][2]
    if outer.is_open():
        return Spoilt, k
    due = bare(events)
    begin, end = node.event.begin, entry[-1].end
    if outer.form == "flow":
        changes = [(begin, end, "")]
        comma = comma_behind(text, end)
        if comma is not None:
            changes.append((comma, comma + 1, ""))
    elif len(outer.entries()) == 1:
        new = "[]" if outer.kind == "sequence" else "{}"
        above = outer.outer
        if outer.kind == "sequence" and above.kind == "mapping" and column(text, outer) <= column(text, above):
            new = " " + new
        changes = [(begin, end, new)]
        due[outer.first] = due[outer.first][:3] + ("flow",)
    elif is_compact(text, outer.entries(), number):
        changes = [(begin, outer.entries()[1][0].event.begin, "")]
    else:
        changes = [lines_of_entry(text, entry) + ("",)]
    return done(text, changes, due[:first] + due[last + 1:], k)


def put(text, k, at, rows):
    events, nodes, node = asked(text, k)
    if events is None:
        return Refused, refused(text)
    if node is None or node.kind not in ("sequence", "mapping"):
        return NoCollection, k
    entries = node.entries()
    if type(at) is not int or not 0 <= at <= len(entries):
        return NoPlace, at
    wrong = plain_writing.wrong_index(rows, node.kind, node.form)
    if wrong is not None:
        return NoEvents, wrong
    if node.form == "flow":
        for index, row in enumerate(rows):
            if row[0] == "scalar" and row[3:] != ("plain", "") and "\n" in written(row[4], row[3], "flow", 2):
                return NoEvents, index
    index = entries[at][0].first if at < len(entries) else node.last
    names = [row[1] for row in rows if row[0] in ("scalar", "sequence", "mapping")]
    for alias, stands in aliases(events, nodes, node):
        if alias >= index and events[alias][1] in names and (stands is None or stands < index):
            return Captured, events[alias][2]
    if node.is_open():
        return Spoilt, k
    new = plain_writing.entry_text(rows, node.kind, node.form, 0 if node.form == "flow" else column(text, node))
    if node.form == "flow":
        if not entries:
            place = behind_properties(text, node) + 1
        elif at == len(entries):
            place, new = entries[-1][-1].end, ", " + new
        else:
            place, new = entries[at][0].event.begin, new + ", "
    elif at == len(entries):
        place = lines_of_entry(text, entries[-1])[1]
        new = new if text[:place].endswith("\n") else "\n" + new
    elif is_compact(text, entries, at):
        place, new = entries[at][0].event.begin, new[column(text, node):] + " " * column(text, node)
    else:
        place = lines_of_entry(text, entries[at])[0]
    due = bare(events)
    return done(text, [(place, place, new)], due[:index] + list(rows) + due[index:], k)


def renamed(text, k, name):
    events, nodes, node = asked(text, k)
    if events is None:
        return Refused, refused(text)
    if node is None or node.kind not in ("scalar", "sequence", "mapping") or node.event[1] is None:
        return NoAnchor, k
    if not plain_writing.is_name(name):
        return NoName, name
    ahead = aliases(events, nodes, node)
    moved = [k] + [alias for alias, stands in ahead if stands == k]
    other = [(event[0], name) + tuple(event)[2:] if index in moved else event for index, event in enumerate(events)]
    for (alias, stands), (_, then) in zip(ahead, aliases(other, nodes, node)):
        if stands != then:
            return Captured, events[alias][2]
    old = node.event[1]
    places = [anchor_place(text, node)] + [events[alias][2] + 1 for alias in moved[1:]]
    return done(text, [(place, place + len(old), name) for place in places], bare(other), k)


def anchor_place(text, node):
    """The place of the name of a node, which is at its begin or behind a tag and what parts these."""
    place = node.start
    if text[place] == "!":
        place += len(node.event[2])
        while text[place] != "&":
            place = text.index("\n", place) if text[place] == "#" else place + 1
    return place + 1


def rewritten(text, k, style, value):
    events, nodes, node = asked(text, k)
    if events is None:
        return Refused, refused(text)
    if node is None or node.kind != "scalar" or node.event[3] not in ("plain", "single", "double"):
        return NoScalar, k
    if type(style) is not str or style not in ("plain", "single", "double"):
        return NoStyle, "style"
    if (style, value) != ("plain", ""):
        if not plain_writing.is_value(value) or not all(fits(value, style, context) for context in (("pair", "flow") if node.outer.form == "flow" else ("key", "block"))):
            return NoValue, value
    hollow = node.event[3:5] == ("plain", "")
    new = "" if (style, value) == ("plain", "") else written(value, style, "key", 3)
    if hollow:
        place = node.end
        if new and place > 0 and text[place - 1] not in " \n[{,":
            new = " " + new
    else:
        place = behind_properties(text, node)
    due = bare(events)
    due[k] = due[k][:3] + (style, value)
    return done(text, [(place, node.end, new)], due, k)


def behind_properties(text, node):
    """The place of the first sign of a node that is none of its properties."""
    place = node.start
    for _ in range(sum(part is not None for part in node.event[1:3])):
        place += len(node.event[1]) + 1 if text[place] == "&" else len(node.event[2])
        while text[place] in " \n#":
            place = text.index("\n", place) if text[place] == "#" else place + 1
    return place
