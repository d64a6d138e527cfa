"""Pairs of a node of one graph and a node of another one."""


def paired(graph, other, labels, others):
    """All pairs to which that of the tops leads, if these are equal; the labels are those of both graphs."""
    pairs = {(graph.top, other.top): True}
    waiting = list(pairs)
    while waiting:
        one, two = waiting.pop()
        for pair in inner_pairs(graph.nodes[one], other.nodes[two], labels, others):
            if pair not in pairs:
                pairs[pair] = True
                waiting.append(pair)
    return list(pairs)


def inner_pairs(node, mate, labels, others):
    """Pairs of equal nodes in two equal ones, such that each entry has one on the other side."""
    if node[0] == "scalar":
        return []
    if node[0] == "sequence":
        return list(zip(node[2], mate[2]))
    here = first_entries(node, labels)
    there = first_entries(mate, others)
    found = []
    for key, value in node[2]:
        key_mate, value_mate = there[(labels[key], labels[value])]
        found.extend([(key, key_mate), (value, value_mate)])
    for key_mate, value_mate in mate[2]:
        key, value = here[(others[key_mate], others[value_mate])]
        found.extend([(key, key_mate), (value, value_mate)])
    return found


def first_entries(node, labels):
    """The entries of a mapping by their labels; of equal ones the first."""
    found = {}
    for key, value in node[2]:
        found.setdefault((labels[key], labels[value]), (key, value))
    return found


def stands(node, mate, pairs, turned):
    """Whether two nodes look alike, if all of these pairs do; turned are the same, the other way about."""
    kind, tag, content = node
    if (kind, tag) != (mate[0], mate[1]):
        return False
    if kind == "scalar":
        return content == mate[2]
    if kind == "sequence":
        return len(content) == len(mate[2]) and all([pair in pairs for pair in zip(content, mate[2])])
    return has_each(content, mate[2], pairs) and has_each(mate[2], content, turned)


def has_each(entries, others, pairs):
    """Whether each entry has another one, such that the pair of keys and that of values are there."""
    for entry in entries:
        if not has_other(entry, others, pairs):
            return False
    return True


def has_other(entry, others, pairs):
    key, value = entry
    for other_key, other_value in others:
        if (key, other_key) in pairs and (value, other_value) in pairs:
            return True
    return False
