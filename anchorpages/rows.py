"""Bare events: those of a text without their places."""

from anchorpages.core import is_tag
from anchorpages.nodes import is_name
from anchorpages.scalars import STYLES, is_value, is_word

FORMS = ("block", "flow")
COLLECTIONS = ("sequence", "mapping")
# How many parts of an event are no places.
PARTS = {"document": 2, "over": 2, "scalar": 5, "alias": 2, "sequence": 4, "mapping": 4, "close": 1}


def bare(events):
    """The bare events of those that are read."""
    return [event[:PARTS[event[0]]] for event in events]


def is_bare_event(thing):
    """Whether this is a bare event, wherever it may stand."""
    if not isinstance(thing, tuple) or len(thing) == 0:
        return False
    kind = thing[0]
    if not isinstance(kind, str) or PARTS.get(kind) != len(thing):
        return False
    if kind in ("document", "over"):
        return thing[1] is True or thing[1] is False
    if kind == "alias":
        return is_name(thing[1])
    if kind == "scalar":
        return has_properties(thing) and is_word(thing[3], STYLES) and is_value(thing[4])
    return kind == "close" or (has_properties(thing) and is_word(thing[3], FORMS))


def has_properties(row):
    """Whether an anchor, or None, and a tag as it is written stand in a row of the right length."""
    return (row[1] is None or is_name(row[1])) and (row[2] is None or row[2] == "!" or is_tag(row[2]))


def is_empty_node(row):
    """Whether a scalar has no signs of its own."""
    return row[3] == "plain" and row[4] == ""
