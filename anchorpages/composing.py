"""The graphs that the events of a text tell."""

from anchorpages.building import Building
from anchorpages.core import check_schema, resolved
from anchorpages.errors import LikeKeys, NoAlias
from anchorpages.graphs import Graph
from anchorpages.likeness import like_keys


def composed(events, schema):
    """The graphs of the documents of a text, from the events that are read from it."""
    check_schema(schema)
    graphs = []
    begin = 0
    for index, event in enumerate(events):
        if event[0] == "over":
            graphs.append(document_graph(events[begin + 1:index], schema))
            begin = index + 1
    return graphs


def document_graph(events, schema):
    """The graph of the events of one node."""
    building = Building()
    places = {}
    for event in events:
        if event[0] == "close":
            building.close()
        else:
            places[building.spot()] = begin_of(event)
            compose(building, event, schema)
    graph = Graph(building.finished())
    like = [places[(number, 2 * index)] for number, index in like_keys(graph)]
    if like:
        raise LikeKeys(min(like))
    return graph


def begin_of(event):
    """The place of the first sign of a node."""
    if event[0] == "alias":
        return event[2]
    return event[5] if event[0] == "scalar" else event[4]


def compose(building, event, schema):
    """The node that begins with an event, or stands again with it."""
    if event[0] == "alias":
        if not building.again(event[1]):
            raise NoAlias(event[2])
        return
    kind, anchor, written, style = event[:4]
    value = event[4] if kind == "scalar" else ""
    tag, content = resolved(kind, written, style, value, schema, place=begin_of(event))
    building.begin(anchor, kind, tag, content)
