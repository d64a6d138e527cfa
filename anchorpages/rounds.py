"""Rounds by which the nodes of a graph part, until those that are equal are left together."""

from anchorpages.nodes import numbers_in


class Rounds:
    """Nodes with labels: two of them are together in this round if they have the same label."""

    def __init__(self, nodes):
        self.nodes = nodes
        self.holders = holders_of(nodes)
        self.labels = []
        self.sizes = []
        # The nodes that have another label than in the round ahead.
        self.moved = list(range(len(nodes)))
        found = {}
        for node in nodes:
            label = found.setdefault(first_sight(node), len(found))
            if label == len(self.sizes):
                self.sizes.append(0)
            self.labels.append(label)
            self.sizes[label] += 1

    def advance(self):
        """Goes on to the next round."""
        sights = {}
        for number in self.touched():
            seen = (self.labels[number], self.sight(number))
            sights.setdefault(seen, []).append(number)
        groups = {}
        for seen in sights:
            groups.setdefault(seen[0], []).append(sights[seen])
        self.moved = []
        for label in groups:
            self.divide(label, groups[label])

    def touched(self):
        """The nodes in which there is one that moved; all others look as in the round ahead."""
        found = {}
        for number in self.moved:
            for holder in self.holders[number]:
                found[holder] = True
        return list(found)

    def sight(self, number):
        """What is seen in a node, by the labels that are told until now."""
        kind, _, content = self.nodes[number]
        if kind == "sequence":
            return tuple([self.labels[part] for part in content])
        return tuple(sorted({(self.labels[key], self.labels[value]) for key, value in content}))

    def divide(self, label, groups):
        """Gives new labels to the groups that leave a label; what was not touched stays, if there is any."""
        staying = []
        # The greatest group stays, so that fewer nodes are touched in the next round.
        if sum([len(group) for group in groups]) == self.sizes[label]:
            staying = max(groups, key=len)
        for group in groups:
            if group != staying:
                self.sizes[label] -= len(group)
                for number in group:
                    self.labels[number] = len(self.sizes)
                self.sizes.append(len(group))
                self.moved.extend(group)


def holders_of(nodes):
    """For each node the collections in which it is."""
    holders = [{} for _ in nodes]
    for number, node in enumerate(nodes):
        for part in numbers_in(node):
            holders[part][number] = True
    return holders


def first_sight(node):
    """What two nodes have in common that are together at first."""
    kind, tag, content = node
    if kind == "scalar":
        return (kind, tag, content)
    return (kind, tag, len(content) if kind == "sequence" else 0)


def labels_of(nodes):
    """Labels of nodes: two of them have the same one just if they are equal."""
    rounds = Rounds(nodes)
    while rounds.moved:
        rounds.advance()
    return rounds.labels


def parting(nodes, one, other):
    """The first round in which two nodes are not together, None if there is none."""
    rounds = Rounds(nodes)
    count = 0
    while rounds.labels[one] == rounds.labels[other]:
        if not rounds.moved:
            return None
        rounds.advance()
        count += 1
    return count
