"""Names of anchors and tags, and the properties of a node."""

from anchorpages.errors import Refused
from anchorpages.signs import BRACKETS, TAG_SIGNS, is_sign


def name_end(text, place):
    """The end of the name behind the sign `&` or `*` at this place."""
    end = place + 1
    while end < len(text) and is_sign(text[end]) and text[end] not in BRACKETS:
        end += 1
    if end == place + 1:
        raise Refused(end)
    return end


def tag_end(text, place):
    """The end of the tag that begins at this place."""
    begin = place + 2 if text[place + 1:place + 2] == "!" else place + 1
    end = begin
    while end < len(text) and text[end] in TAG_SIGNS:
        end += 1
    if end == place + 2 and begin == end:
        raise Refused(end)
    return end


class Props:
    """The properties of a node; start is None where it has none."""

    def __init__(self):
        self.anchor = None
        self.tag = None
        self.start = None
        self.end = None

    def has(self, sign):
        """Whether there is one already that begins with this sign."""
        return (self.anchor if sign == "&" else self.tag) is not None

    def take(self, text, place):
        """Reads the one that begins at this place, and returns its end."""
        sign = text[place]
        if self.has(sign):
            raise Refused(place)
        if sign == "&":
            end = name_end(text, place)
            self.anchor = text[place + 1:end]
        else:
            end = tag_end(text, place)
            self.tag = text[place:end]
        if self.start is None:
            self.start = place
        self.end = end
        return end


def both_props(ahead, behind):
    """The properties of a node that has these and, behind them, those."""
    if behind.start is None:
        return ahead
    if ahead.start is None:
        return behind
    props = Props()
    props.anchor = behind.anchor if ahead.anchor is None else ahead.anchor
    props.tag = behind.tag if ahead.tag is None else ahead.tag
    props.start = ahead.start
    props.end = behind.end
    return props


def dressed(event, props):
    """The first event of a node, as it is with these properties."""
    if props.start is None:
        return event
    if event[0] != "scalar":
        return (event[0], props.anchor, props.tag, event[3], props.start)
    return ("scalar", props.anchor, props.tag, event[3], event[4], props.start, event[6])


def empty_node(props, place):
    """The event of an empty node; the place is its own if it has no properties."""
    if props.start is None:
        return ("scalar", None, None, "plain", "", place, place)
    return ("scalar", props.anchor, props.tag, "plain", "", props.start, props.end)
