"""Texts of bare events and of graphs."""

from anchorpages.core import check_schema, tag_fits, tag_needed
from anchorpages.errors import BadTag, LikeKeys, NoForm, NoGraph
from anchorpages.graphs import ordered, rows_of
from anchorpages.likeness import like_keys
from anchorpages.lines import stream_text
from anchorpages.rows import FORMS
from anchorpages.scalars import has_text, is_text, is_word
from anchorpages.signs import FEED
from anchorpages.walks import check_stream

# The contexts in which a scalar is to fit a style, by its place.
IN_BRACKETS = ("flow",)
A_KEY = ("key", "block")
IN_LINES = ("block",)
STYLES = ("plain", "single", "double")


def events_text(rows):
    """A text from which these bare events are read; raises NoEvents if they are none."""
    check_stream(rows)
    return stream_text(rows)


def text_of(graphs, schema="core", form="block"):
    """A text of which these graphs are composed."""
    return stream_text(events_of(graphs, schema, form))


def events_of(graphs, schema="core", form="block"):
    """Bare events of graphs, one document for each."""
    check_schema(schema)
    if not is_word(form, FORMS):
        raise NoForm(form)
    if not isinstance(graphs, (list, tuple)):
        raise NoGraph(-4)
    events = []
    for index, graph in enumerate(graphs):
        check_meaning(graph, schema)
        events.append(("document", index > 0))
        events.extend(node_events(rows_of(graph), schema, form))
        events.append(("over", False))
    return events


def check_meaning(graph, schema):
    """Raises an error unless a graph can be told by a schema."""
    graph = ordered(graph)
    for number, (kind, tag, content) in enumerate(graph.nodes):
        if not tag_fits(kind, tag, content, schema) or (kind == "scalar" and not is_text(content)):
            raise BadTag(number)
    like = like_keys(graph)
    if like:
        raise LikeKeys(like[0])


def node_events(rows, schema, form):
    """The bare events of the rows of a graph."""
    events = []
    turns = [""]        # of each collection that is not closed what comes next: a key, a value, or an entry
    for index, row in enumerate(rows):
        if row[0] == "close":
            turns.pop()
            events.append(row)
            continue
        turn = turns[-1]
        turns[-1] = {"key": "value", "value": "key", "": ""}[turn]
        if row[0] == "alias":
            events.append(row)
        elif row[0] == "scalar":
            contexts = IN_BRACKETS if form == "flow" else A_KEY if turn == "key" else IN_LINES
            events.append(scalar_event(row, contexts, schema))
        else:
            turns.append("key" if row[0] == "mapping" else "")
            kind, name, tag = row
            needed = tag_needed(kind, tag, "", None, schema)
            events.append((kind, name, needed, "flow" if rows[index + 1][0] == "close" else form))
    return events


def scalar_event(row, contexts, schema):
    """The bare event of a scalar, with the first style that needs no tag, or else the first that it fits."""
    _, name, tag, content = row
    # A literal one fits in lines alone.
    styles = ("literal",) + STYLES if FEED in content else STYLES
    found = []
    for style in styles:
        if all([has_text(content, style, context) for context in contexts]):
            needed = tag_needed("scalar", tag, content, style, schema)
            if needed is None:
                return ("scalar", name, None, style, content)
            found.append(("scalar", name, needed, style, content))
    return found[0]
