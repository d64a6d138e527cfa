"""Reads texts: the events of a stream, or the place at which a text is none."""

from anchorpages.blocks import Blocks
from anchorpages.errors import Refused
from anchorpages.signs import is_foreign


def read(text):
    """The events of a text, a list of tuples; raises Refused(place) if it is no stream."""
    if not isinstance(text, str):
        raise Refused(-1)
    for place, sign in enumerate(text):
        if is_foreign(sign):
            Blocks(text[:place]).read()
            raise Refused(place)
    return Blocks(text).read()


def refused(text):
    """None if a text is a stream, otherwise with how many of its signs some stream begins."""
    try:
        read(text)
    except Refused as error:
        return error.place
    return None
