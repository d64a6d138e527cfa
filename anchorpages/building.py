"""Nodes of a graph, put together in the order in which a text tells them."""


class Building:
    """Nodes that come one behind another, each into the collection that was begun last."""

    def __init__(self):
        self.nodes = []
        self.begun = []
        self.names = {}

    def is_over(self):
        """Whether the first node is there, and whole."""
        return len(self.nodes) > 0 and len(self.begun) == 0

    def spot(self):
        """Where the next node comes: the number of the collection, and how many numbers are in it."""
        if not self.begun:
            return (-1, 0)
        return (self.begun[-1], len(self.nodes[self.begun[-1]][2]))

    def may_close(self):
        """Whether no key without a value is in the collection that was begun last."""
        kind, _, content = self.nodes[self.begun[-1]]
        return kind == "sequence" or len(content) % 2 == 0

    def begin(self, name, kind, tag, content):
        """A new node; what is in it, if it is a collection, comes next."""
        number = len(self.nodes)
        self.mention(number)
        self.nodes.append((kind, tag, content if kind == "scalar" else []))
        if name is not None:
            self.names[name] = number
        if kind != "scalar":
            self.begun.append(number)

    def again(self, name):
        """The newest node with this name, once more; tells whether there is one."""
        if name not in self.names:
            return False
        self.mention(self.names[name])
        return True

    def mention(self, number):
        if self.begun:
            self.nodes[self.begun[-1]][2].append(number)

    def close(self):
        self.begun.pop()

    def finished(self):
        """The nodes as those of a graph."""
        return [finished_node(kind, tag, content) for kind, tag, content in self.nodes]


def finished_node(kind, tag, content):
    if kind == "scalar":
        return (kind, tag, content)
    if kind == "sequence":
        return (kind, tag, tuple(content))
    return (kind, tag, tuple([(content[at], content[at + 1]) for at in range(0, len(content), 2)]))
