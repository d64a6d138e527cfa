"""Graphs of nodes, their order, their rows and the trees that they unfold to."""

from anchorpages.building import Building
from anchorpages.errors import NoAlias, NoDepth, NoGraph, NoRows, TooLarge
from anchorpages.nodes import MOST_NODES, MOST_NUMBERS, is_node, is_row, numbers_in, renumbered
from anchorpages.scalars import is_whole

MOST_TREES = 3000
DEEPEST_TREE = 50
DEEPEST_SIZE = 100
CLOSE = -1


class Graph:
    """What a document says: nodes, told by their numbers, and which of them is the top."""

    def __init__(self, nodes, top=0):
        if not isinstance(nodes, (list, tuple)):
            raise NoGraph(-1)
        for index, node in enumerate(nodes):
            if not is_node(node, len(nodes)):
                raise NoGraph(index)
        if not 1 <= len(nodes) <= MOST_NODES:
            raise NoGraph(-1)
        if not is_whole(top, 0, len(nodes) - 1):
            raise NoGraph(-2)
        self.nodes = tuple(nodes)
        self.top = top

    def __eq__(self, other):
        return isinstance(other, Graph) and self.nodes == other.nodes and self.top == other.top


def check_graph(thing):
    if not isinstance(thing, Graph):
        raise NoGraph(-3)


def order_of(graph):
    """The numbers of the nodes that are met, as they are met from the top."""
    met = {}
    waiting = [graph.top]
    while waiting:
        number = waiting.pop()
        if number not in met:
            met[number] = True
            waiting.extend(numbers_in(graph.nodes[number])[::-1])
    return list(met)


def ordered(graph):
    """The graph with its nodes numbered in the order in which they are met."""
    check_graph(graph)
    order = order_of(graph)
    numbers = {number: index for index, number in enumerate(order)}
    return Graph([renumbered(graph.nodes[number], numbers) for number in order])


def shared(graph):
    """The nodes that are met more than once."""
    check_graph(graph)
    places = {graph.top: 1}
    for number in order_of(graph):
        for part in numbers_in(graph.nodes[number]):
            places[part] = places.get(part, 0) + 1
    return sorted([number for number in places if places[number] > 1])


def ringed(graph):
    """The nodes that are met and are in a ring."""
    check_graph(graph)
    inner = [sorted(set(numbers_in(node))) for node in graph.nodes]
    return sorted([number for number in order_of(graph) if leads_back(inner, number)])


def leads_back(inner, number):
    """Whether a way of one step or more leads from a node to itself, by what is in each node."""
    met = set()
    waiting = list(inner[number])
    while waiting and number not in met:
        part = waiting.pop()
        if part not in met:
            met.add(part)
            waiting.extend(inner[part])
    return number in met


def rows_of(graph):
    """The rows of a graph, in its order."""
    check_graph(graph)
    many = {number: True for number in shared(graph)}
    names = {}
    rows = []
    waiting = [graph.top]
    while waiting:
        number = waiting.pop()
        if number == CLOSE:
            rows.append(("close",))
        elif number in names:
            rows.append(("alias", names[number]))
        else:
            if number in many:
                names[number] = "a" + str(len(names) + 1)
            kind, tag, content = graph.nodes[number]
            if kind == "scalar":
                rows.append((kind, names.get(number), tag, content))
            else:
                rows.append((kind, names.get(number), tag))
                waiting.append(CLOSE)
                waiting.extend(numbers_in(graph.nodes[number])[::-1])
    return rows


def graph_of(rows):
    """The graph that rows tell."""
    if not isinstance(rows, (list, tuple)):
        raise NoRows(-1)
    building = Building()
    for index, row in enumerate(rows):
        if not is_row(row) or not can_stand(building, row[0]):
            raise NoRows(index)
        if row[0] == "close":
            building.close()
        elif row[0] != "alias":
            building.begin(row[1], row[0], row[2], row[-1])
        elif not building.again(row[1]):
            raise NoAlias(index)
    if not building.is_over():
        raise NoRows(len(rows))
    return Graph(building.finished())


def can_stand(building, kind):
    """Whether a row of this kind can come next."""
    collection, many = building.spot()
    if kind == "close":
        return collection >= 0 and building.may_close()
    if building.is_over() or many == MOST_NUMBERS:
        return False
    return kind == "alias" or len(building.nodes) < MOST_NODES


def unfolded(graph, depth):
    """The tree at the top without sharing, to a depth."""
    check_graph(graph)
    check_depth(depth, DEEPEST_TREE)
    if size_of(graph, depth) > MOST_TREES:
        raise TooLarge(MOST_TREES)
    # Trees of one depth less are parts of many trees here; none of them is written twice.
    trees = [stump(node) for node in graph.nodes]
    for _ in range(depth):
        trees = [renumbered(node, trees) for node in graph.nodes]
    return trees[graph.top]


def unfolded_size(graph, depth):
    """How many trees there are in the tree at the top."""
    check_graph(graph)
    check_depth(depth, DEEPEST_SIZE)
    return size_of(graph, depth)


def check_depth(depth, deepest):
    if not is_whole(depth, 0, deepest):
        raise NoDepth(depth)


def size_of(graph, depth):
    inner = [numbers_in(node) for node in graph.nodes]
    sizes = [1 for _ in inner]
    for _ in range(depth):
        sizes = [1 + sum([sizes[part] for part in numbers]) for numbers in inner]
    return sizes[graph.top]


def stump(node):
    """The tree of a node to the depth 0."""
    kind, tag, content = node
    if kind == "scalar":
        return node
    return (kind, tag, len(content) if kind == "sequence" else None)
