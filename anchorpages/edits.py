"""Changes of a text that leave the rest of it as it is."""

from anchorpages.composing import begin_of
from anchorpages.errors import (Captured, Needed, NoAnchor, NoChange, NoCollection, NoEntry, NoEvents, NoName, NoPlace,
                                NoScalar, NoStyle, NoValue, Refused, Spoilt)
from anchorpages.lines import block_entry_text, flow_entry_text
from anchorpages.nodes import is_name
from anchorpages.places import Sheet, past_gap
from anchorpages.reader import read
from anchorpages.rows import bare, is_empty_node
from anchorpages.scalars import has_text, is_value, is_whole, is_word, text_of_scalar
from anchorpages.signs import FEED
from anchorpages.walks import check_entry

LINE_STYLES = ("plain", "single", "double")
EMPTIED = {"sequence": "[]", "mapping": "{}"}


def changed(text, changes):
    """The text behind changes, tuples (start, end, new), told by the places of the old text."""
    if not isinstance(changes, (list, tuple)):
        raise NoChange(-1)
    pieces = []
    place = 0
    for index, change in enumerate(changes):
        if not is_change(change, place, len(text)):
            raise NoChange(index)
        start, end, new = change
        pieces.append(text[place:start])
        pieces.append(new)
        place = end
    pieces.append(text[place:])
    return "".join(pieces)


def is_change(thing, low, high):
    """Whether this is a change of a stretch between two places."""
    if not isinstance(thing, tuple) or len(thing) != 3:
        return False
    start, end, new = thing
    return is_whole(start, low, high) and is_whole(end, start, high) and isinstance(new, str)


def checked(text, changes, due, k):
    """The changes, if the text behind them has the bare events that are due."""
    try:
        events = read(changed(text, changes))
    except Refused:
        raise Spoilt(k) from None
    if bare(events) != due:
        raise Spoilt(k)
    return changes


def renamed(text, k, name):
    """The changes by which an anchor, and the aliases that stand for its node, get a name."""
    sheet = Sheet(text)
    if not sheet.has_event(k) or not has_anchor(sheet.events[k]):
        raise NoAnchor(k)
    if not is_name(name):
        raise NoName(name)
    due = bare(sheet.events)
    old = due[k][1]
    before = sheet.targets(k, due)
    named = [k] + [alias for alias in before if before[alias] == k]
    for index in named:
        due[index] = (due[index][0], name) + due[index][2:]
    after = sheet.targets(k, due)
    for alias in before:
        if before[alias] != after[alias]:
            raise Captured(begin_of(sheet.events[alias]))
    places = [sheet.anchor_name(k)] + [begin_of(sheet.events[alias]) + 1 for alias in named[1:]]
    return checked(text, [(place, place + len(old), name) for place in places], due, k)


def has_anchor(event):
    return event[0] in ("scalar", "sequence", "mapping") and event[1] is not None


def rewritten(text, k, style, value):
    """The change by which a scalar gets a style and a value."""
    sheet = Sheet(text)
    if not sheet.has_event(k) or sheet.events[k][0] != "scalar" or sheet.events[k][3] not in LINE_STYLES:
        raise NoScalar(k)
    if not is_word(style, LINE_STYLES):
        raise NoStyle("style")
    inside = sheet.is_flow(sheet.outer[k])
    if not (is_value(value) and may_be(value, style, ("pair", "flow") if inside else ("key", "block"))):
        raise NoValue(value)
    due = bare(sheet.events)
    hollow = is_empty_node(due[k])
    due[k] = due[k][:3] + (style, value)
    end = sheet.end_of(k)
    start = end if hollow else sheet.past_properties(k)
    new = text_of_scalar(value, style, "key", 0, 0, 1)
    if hollow and new != "" and start > 0 and text[start - 1] not in " \n[{,":
        new = " " + new
    return checked(text, [(start, end, new)], due, k)


def may_be(value, style, contexts):
    """Whether a scalar on one line may have this value and style."""
    return (value == "" and style == "plain") or all([has_text(value, style, context) for context in contexts])


def dropped(text, k):
    """The changes by which the entry that event k begins goes."""
    sheet = Sheet(text)
    found = sheet.spot_of(k)
    if found is None:
        raise NoEntry(k)
    index, number = found
    entries = sheet.entries(index)
    entry = entries[number]
    check_needed(sheet, entry)
    if sheet.is_bare_pair(index):
        raise Spoilt(k)
    due = bare(sheet.events)
    if sheet.is_flow(index):
        changes = out_of_brackets(sheet, entry)
    elif len(entries) == 1:
        changes = [(entry.start, entry.stop, emptied(sheet, index))]
        due[index] = due[index][:3] + ("flow",)
    elif sheet.is_compact(entry):
        changes = [(entry.start, entries[1].start, "")]
    else:
        changes = [(sheet.line_of(entry), sheet.past_lines(entry), "")]
    return checked(text, changes, due[:entry.first] + due[entry.last + 1:], k)


def check_needed(sheet, entry):
    """Raises Needed if an alias outside of an entry stands for a node in it."""
    targets = sheet.targets(entry.first, sheet.events)
    for alias in targets:
        outside = not entry.first <= alias <= entry.last
        if outside and entry.first <= targets[alias] <= entry.last:
            raise Needed(begin_of(sheet.events[alias]))


def out_of_brackets(sheet, entry):
    """The changes by which an entry of a flow collection goes."""
    changes = [(entry.start, entry.stop, "")]
    comma = past_gap(sheet.text, entry.stop)
    if sheet.text[comma] == ",":
        changes.append((comma, comma + 1, ""))
    return changes


def emptied(sheet, index):
    """What stands for a block collection without entries, in the place of its only one."""
    kind = sheet.events[index][0]
    outer = sheet.outer[index]
    if kind == "mapping" or sheet.events[outer][0] != "mapping":
        return EMPTIED[kind]
    # The entries of a sequence may stand no deeper than those of the mapping around, brackets may not.
    beside = sheet.entry_column(index) <= sheet.entry_column(outer)
    return " []" if beside else "[]"


def put(text, k, at, rows):
    """The change by which a new entry, told by its bare events, comes into the collection of event k."""
    sheet = Sheet(text)
    if not sheet.is_collection(k):
        raise NoCollection(k)
    entries = sheet.entries(k)
    if not is_whole(at, 0, len(entries)):
        raise NoPlace(at)
    check_entry(rows, sheet.events[k][0], sheet.events[k][3])
    if sheet.is_flow(k):
        check_one_line(rows)
    index = entries[at].first if at < len(entries) else sheet.lasts[k]
    check_free(sheet, k, index, rows)
    if sheet.is_bare_pair(k):
        raise Spoilt(k)
    place, new = into_brackets(sheet, k, at, rows) if sheet.is_flow(k) else into_lines(sheet, k, at, rows)
    due = bare(sheet.events)
    return checked(text, [(place, place, new)], due[:index] + list(rows) + due[index:], k)


def check_one_line(rows):
    """Raises NoEvents for a scalar in brackets of which the text has a line feed."""
    for index, row in enumerate(rows):
        if row[0] == "scalar" and row[3] != "double" and FEED in row[4]:
            raise NoEvents(index)


def check_free(sheet, k, index, rows):
    """Raises Captured if an alias from event index on would stand for a node of rows."""
    names = [row[1] for row in rows if has_anchor(row)]
    targets = sheet.targets(k, sheet.events)
    for alias in targets:
        if alias >= index and targets[alias] < index and sheet.events[alias][1] in names:
            raise Captured(begin_of(sheet.events[alias]))


def into_brackets(sheet, k, at, rows):
    """The place of a new entry of a flow collection, and its text with what parts it from others."""
    new = flow_entry_text(rows, sheet.events[k][0])
    entries = sheet.entries(k)
    if not entries:
        return sheet.past_properties(k) + 1, new
    if at == len(entries):
        return entries[-1].stop, ", " + new
    return entries[at].start, new + ", "


def into_lines(sheet, k, at, rows):
    """The place of a new entry of a block collection, and its lines."""
    column = sheet.entry_column(k)
    new = block_entry_text(rows, sheet.events[k][0], column)
    entries = sheet.entries(k)
    if at == len(entries):
        place = sheet.past_lines(entries[-1])
        if sheet.text[place - 1] != FEED:
            new = FEED + new
        return place, new
    if sheet.is_compact(entries[at]):
        return entries[at].start, new[column:] + " " * column
    return sheet.line_of(entries[at]), new
