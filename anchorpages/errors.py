"""The errors of the package: each keeps what it was made with."""


class PageError(ValueError):
    """Any error that the package raises."""


class NoFit(PageError):
    """A value does not fit a style in a context."""


class Refused(PageError):
    """A text is no stream: no stream begins with more than `place` signs of it."""

    def __init__(self, place=None):
        self.place = place


class NoGraph(PageError):
    """What stands at `index` is no node of a graph, or there is no graph."""

    def __init__(self, index=None):
        self.index = index


class NoRows(PageError):
    """What stands at `index` is no row, or cannot stand there."""

    def __init__(self, index=None):
        self.index = index


class NoAlias(PageError):
    """An alias at `place` stands for no node."""

    def __init__(self, place=None):
        self.place = place


class LikeKeys(PageError):
    """A mapping has two equal keys, the second one at `place`."""

    def __init__(self, place=None):
        self.place = place


class NoNode(PageError):
    """There is no node with this number."""

    def __init__(self, number=None):
        self.number = number


class NoDepth(PageError):
    """A tree cannot be told to this depth."""

    def __init__(self, depth=None):
        self.depth = depth


class TooLarge(PageError):
    """There would be more than `limit` trees."""

    def __init__(self, limit=None):
        self.limit = limit


class NoSchema(PageError):
    """There is no such schema."""

    def __init__(self, schema=None):
        self.schema = schema


class BadTag(PageError):
    """The node at `place` cannot have its tag."""

    def __init__(self, place=None):
        self.place = place


class NoStyle(PageError):
    """The argument with the name `part` is not as told."""

    def __init__(self, part=None):
        self.part = part


class NoEvents(PageError):
    """What stands at `index` is no bare event, or cannot stand there."""

    def __init__(self, index=None):
        self.index = index


class NoForm(PageError):
    """There is no such form of a collection."""

    def __init__(self, form=None):
        self.form = form


class NoChange(PageError):
    """What stands at `index` is no change, or cannot stand there."""

    def __init__(self, index=None):
        self.index = index


class Spoilt(PageError):
    """A change at event `k` would change more than it is to."""

    def __init__(self, k=None):
        self.k = k


class NoAnchor(PageError):
    """Event `k` has no anchor."""

    def __init__(self, k=None):
        self.k = k


class NoName(PageError):
    """An anchor cannot have this name."""

    def __init__(self, name=None):
        self.name = name


class Captured(PageError):
    """The alias at `place` would stand for another node."""

    def __init__(self, place=None):
        self.place = place


class NoScalar(PageError):
    """Event `k` is no scalar that can be rewritten."""

    def __init__(self, k=None):
        self.k = k


class NoEntry(PageError):
    """Event `k` begins no entry."""

    def __init__(self, k=None):
        self.k = k


class Needed(PageError):
    """The alias at `place` stands for a node that would go."""

    def __init__(self, place=None):
        self.place = place


class NoCollection(PageError):
    """Event `k` is no collection."""

    def __init__(self, k=None):
        self.k = k


class NoPlace(PageError):
    """A collection has no place with this number."""

    def __init__(self, number=None):
        self.number = number


class NoLog(PageError):
    """The row of a log with this index is none, or cannot be done."""

    def __init__(self, row=None):
        self.row = row


class NoLine(PageError):
    """A page has no answer to this line."""

    def __init__(self, line=None):
        self.line = line


class NoValue(PageError):
    """A scalar cannot have this value there."""

    def __init__(self, thing=None):
        self.thing = thing
