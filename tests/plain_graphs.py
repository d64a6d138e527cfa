"""A second, plain way to find what graphs.py and likeness.py tell, and graphs drawn by chance."""

import itertools

from anchorpages.graphs import Graph

TAGS = {"scalar": ("!!str", "!own"), "sequence": ("!!seq", "!own"), "mapping": ("!!map", "!own")}


def draw(chance, most=6, kinds=("scalar", "sequence", "mapping"), texts="ab", many=3, tags=1):
    """A graph of few nodes, with rings, sharing and nodes that are not met."""
    count = chance.randrange(1, most + 1)
    nodes = []
    for _ in range(count):
        kind = chance.choice(kinds)
        tag = chance.choice(TAGS[kind][:tags])
        if kind == "scalar":
            nodes.append((kind, tag, chance.choice(texts)))
        elif kind == "sequence":
            nodes.append((kind, tag, tuple(chance.randrange(count) for _ in range(chance.randrange(many + 1)))))
        else:
            nodes.append((kind, tag, tuple((chance.randrange(count), chance.randrange(count)) for _ in range(chance.randrange(many + 1)))))
    return Graph(nodes, chance.randrange(count))


def shuffled(chance, graph, doubling=False):
    """The same graph with other numbers, and other orders of entries; perhaps some entries twice."""
    count = len(graph.nodes)
    turn = list(range(count))
    chance.shuffle(turn)
    nodes = [None] * count
    for number, (kind, tag, content) in enumerate(graph.nodes):
        if kind == "sequence":
            content = tuple(turn[part] for part in content)
        elif kind == "mapping":
            content = [(turn[key], turn[value]) for key, value in content]
            if doubling and content and chance.random() < 0.5:
                content.append(chance.choice(content))
            chance.shuffle(content)
            content = tuple(content)
        nodes[turn[number]] = (kind, tag, content)
    return Graph(nodes, turn[graph.top])


def spread(chance, graph, copies=2):
    """An equal graph in which there may be several nodes for one."""
    count = len(graph.nodes)

    def other(number):
        return number + count * chance.randrange(copies)

    nodes = []
    for kind, tag, content in graph.nodes * copies:
        if kind == "sequence":
            content = tuple(other(part) for part in content)
        elif kind == "mapping":
            content = tuple((other(key), other(value)) for key, value in content)
        nodes.append((kind, tag, content))
    return Graph(nodes, other(graph.top))


def small_graphs(most):
    """All graphs of so few nodes with one text, one tag for each kind, and at most two numbers in a content."""
    for count in range(1, most + 1):
        numbers = range(count)
        contents = [("scalar", "!!str", "a")]
        for many in range(3):
            contents.extend(("sequence", "!!seq", inner) for inner in itertools.product(numbers, repeat=many))
        contents.extend([("mapping", "!!map", ())] + [("mapping", "!!map", (inner,)) for inner in itertools.product(numbers, repeat=2)])
        for nodes in itertools.product(contents, repeat=count):
            yield Graph(nodes)


def inner(node):
    """The numbers in a node."""
    if node[0] == "scalar":
        return ()
    return node[2] if node[0] == "sequence" else tuple(itertools.chain.from_iterable(node[2]))


def order(graph):
    met = []

    def meet(number):
        if number not in met:
            met.append(number)
            for part in inner(graph.nodes[number]):
                meet(part)

    meet(graph.top)
    return met


def in_order(graph):
    met = order(graph)
    nodes = []
    for kind, tag, content in [graph.nodes[number] for number in met]:
        if kind == "sequence":
            content = tuple(met.index(part) for part in content)
        elif kind == "mapping":
            content = tuple((met.index(key), met.index(value)) for key, value in content)
        nodes.append((kind, tag, content))
    return Graph(nodes, 0)


def places(graph):
    """How often each node that is met stands somewhere."""
    met = order(graph)
    standing = [part for number in met for part in inner(graph.nodes[number])] + [graph.top]
    return {number: standing.count(number) for number in met}


def steps(graph):
    """The pairs of nodes of which a way of one step or more leads from the first to the second."""
    ways = {(number, part) for number, node in enumerate(graph.nodes) for part in inner(node)}
    while True:
        more = ways | {(one, two) for one, mid in ways for other, two in ways if mid == other}
        if more == ways:
            return ways
        ways = more


def tree(graph, depth, number=None):
    kind, tag, content = graph.nodes[graph.top if number is None else number]
    if kind == "scalar":
        return kind, tag, content
    if depth == 0:
        return kind, tag, len(content) if kind == "sequence" else None
    if kind == "sequence":
        return kind, tag, tuple(tree(graph, depth - 1, part) for part in content)
    return kind, tag, tuple((tree(graph, depth - 1, key), tree(graph, depth - 1, value)) for key, value in content)


def count_trees(told):
    """How many trees there are in one."""
    kind, _, content = told
    if kind == "scalar" or not isinstance(content, tuple):
        return 1
    below = content if kind == "sequence" else [part for pair in content for part in pair]
    return 1 + sum(count_trees(part) for part in below)


def without_order(told):
    """A tree in which the order and the doubling of pairs are lost."""
    kind, tag, content = told
    if kind == "scalar" or not isinstance(content, tuple):
        return told
    if kind == "sequence":
        return kind, tag, tuple(without_order(part) for part in content)
    return kind, tag, frozenset((without_order(key), without_order(value)) for key, value in content)


def together_at_first(one, two):
    if one[:2] != two[:2]:
        return False
    if one[0] == "scalar":
        return one[2] == two[2]
    return one[0] == "mapping" or len(one[2]) == len(two[2])


def together_again(one, two, table):
    """Whether two nodes that are together stay so, by the table of pairs of the round ahead."""
    if one[0] == "scalar":
        return True
    if one[0] == "sequence":
        return all(pair in table for pair in zip(one[2], two[2]))
    return all(any((key, other) in table and (value, worth) in table for other, worth in two[2]) for key, value in one[2]) and all(
        any((key, other) in table and (value, worth) in table for key, value in one[2]) for other, worth in two[2])


def tables(graph, other):
    """The pairs of nodes that are together, in round 0, 1 and so on up to the last one that parts some."""
    table = {(one, two) for one, node in enumerate(graph.nodes) for two, mate in enumerate(other.nodes) if together_at_first(node, mate)}
    rounds = [table]
    while True:
        table = {(one, two) for one, two in table if together_again(graph.nodes[one], other.nodes[two], table)}
        if table == rounds[-1]:
            return rounds
        rounds.append(table)


def first_apart(rounds, pair):
    for number, table in enumerate(rounds):
        if pair not in table:
            return number
    return None


def like(graph):
    """What like_keys is to tell."""
    same = tables(graph, graph)[-1]
    return [(number, index) for number, (kind, _, content) in enumerate(graph.nodes) if kind == "mapping"
            for index, (key, _) in enumerate(content) if any((key, ahead) in same for ahead, _ in content[:index])]


def one_to_one(graph, other):
    """All one-to-one ways between the nodes that are met, by trying them all."""
    here, there = order(graph), order(other)
    found = []
    if len(here) == len(there):
        for mates in itertools.permutations(there):
            way = dict(zip(here, mates))
            if way[graph.top] == other.top and all(goes(graph.nodes[number], other.nodes[way[number]], way) for number in here):
                found.append(sorted(way.items()))
    return found


def goes(node, mate, way):
    if node[:2] != mate[:2]:
        return False
    if node[0] == "scalar":
        return node[2] == mate[2]
    if node[0] == "sequence":
        return tuple(way[part] for part in node[2]) == mate[2]
    return sorted((way[key], way[value]) for key, value in node[2]) == sorted(mate[2])


def is_standing(node, mate, paper):
    """Whether a pair stands in a paper, a set of pairs."""
    return together_at_first(node, mate) and together_again(node, mate, paper)


def judge(graph, other, paper):
    """What judged is to tell of a list or tuple."""
    def is_pair(thing):
        return type(thing) is tuple and len(thing) == 2 and type(thing[0]) is int and type(thing[1]) is int and (
            0 <= thing[0] < len(graph.nodes) and 0 <= thing[1] < len(other.nodes))

    told = {thing for thing in paper if is_pair(thing)}
    for index, thing in enumerate(paper):
        if not is_pair(thing) or thing in [ahead for ahead in paper[:index] if is_pair(ahead)]:
            return index
        if not is_standing(graph.nodes[thing[0]], other.nodes[thing[1]], told):
            return index
    return None if (graph.top, other.top) in told else len(paper)
