"""Which nodes and which graphs are equal, and which are alike."""

from anchorpages.errors import LikeKeys, NoNode
from anchorpages.graphs import Graph, check_graph, order_of, ordered
from anchorpages.matches import paired, stands
from anchorpages.nodes import renumbered
from anchorpages.rounds import labels_of, parting
from anchorpages.scalars import is_whole


def parts(graph):
    """For each node the least number of a node that is equal to it."""
    check_graph(graph)
    labels = labels_of(graph.nodes)
    first = {}
    for number, label in enumerate(labels):
        first.setdefault(label, number)
    return [first[label] for label in labels]


def parted_at(graph, one, other):
    """The first round in which two nodes of a graph are not together, None if they are equal."""
    check_graph(graph)
    for number in (one, other):
        if not is_whole(number, 0, len(graph.nodes) - 1):
            raise NoNode(number)
    return parting(graph.nodes, one, other)


def equal(graph, other):
    """Whether the tops of two graphs are equal."""
    return apart(graph, other) is None


def apart(graph, other):
    """The first round in which the tops of two graphs are not together, None if they are equal."""
    nodes = both_nodes(graph, other)
    return parting(nodes, graph.top, len(graph.nodes) + other.top)


def both_nodes(graph, other):
    """The nodes of two graphs in one list, those of the other one behind the first ones."""
    check_graph(graph)
    check_graph(other)
    many = len(graph.nodes)
    numbers = [many + number for number in range(len(other.nodes))]
    return list(graph.nodes) + [renumbered(node, numbers) for node in other.nodes]


def like_keys(graph):
    """The entries whose key is equal to that of an entry ahead, with the number of their mapping."""
    check_graph(graph)
    return like_entries(graph.nodes, labels_of(graph.nodes))


def like_entries(nodes, labels):
    """The same, by labels that are the same for equal nodes."""
    found = []
    for number, node in enumerate(nodes):
        seen = {}
        for index, entry in enumerate(node[2] if node[0] == "mapping" else ()):
            label = labels[entry[0]]
            if label in seen:
                found.append((number, index))
            seen[label] = True
    return found


def check_keys(graph, labels):
    """Refuses a graph with like keys."""
    places = like_entries(graph.nodes, labels)
    if places:
        raise LikeKeys(places[0])


def alike(graph, other):
    """The nodes of two graphs that go to one another, None if the graphs are not alike."""
    labels = labels_of(both_nodes(graph, other))
    many = len(graph.nodes)
    check_keys(graph, labels)
    check_keys(other, labels[many:])
    if labels[graph.top] != labels[many + other.top]:
        return None
    # Without like keys each node can go to one node alone, and the tops lead to all of these pairs.
    pairs = paired(graph, other, labels, labels[many:])
    if len(pairs) != len({one for one, _ in pairs}) or len(pairs) != len({two for _, two in pairs}):
        return None
    return sorted(pairs)


def least(graph):
    """The graph in which equal nodes have become one."""
    check_graph(graph)
    labels = labels_of(graph.nodes)
    check_keys(graph, labels)
    first = {}
    for number in order_of(graph):
        first.setdefault(labels[number], number)
    # A node that is not met has no part in this; it may be equal to none that is.
    staying = [first.get(label, number) for number, label in enumerate(labels)]
    return ordered(Graph([renumbered(node, staying) for node in graph.nodes], graph.top))


def paper_of(graph, other):
    """A paper for the equality of two graphs, None if they are not equal."""
    labels = labels_of(both_nodes(graph, other))
    others = labels[len(graph.nodes):]
    if labels[graph.top] != others[other.top]:
        return None
    return paired(graph, other, labels, others)


def judged(graph, other, paper):
    """None for a paper; otherwise the index of what is wrong in it."""
    check_graph(graph)
    check_graph(other)
    if not isinstance(paper, (list, tuple)):
        return -1
    pairs = {pair: True for pair in paper if is_pair_of(pair, graph, other)}
    turned = {(two, one): True for one, two in pairs}
    seen = set()
    for index, pair in enumerate(paper):
        if not is_pair_of(pair, graph, other) or pair in seen:
            return index
        if not stands(graph.nodes[pair[0]], other.nodes[pair[1]], pairs, turned):
            return index
        seen.add(pair)
    return None if (graph.top, other.top) in pairs else len(paper)


def is_pair_of(thing, graph, other):
    """Whether this is a tuple of the number of a node of one graph and one of the other one."""
    if not isinstance(thing, tuple) or len(thing) != 2:
        return False
    return is_whole(thing[0], 0, len(graph.nodes) - 1) and is_whole(thing[1], 0, len(other.nodes) - 1)
