"""Which bare events may come one behind another."""

from anchorpages.errors import NoEvents
from anchorpages.rows import COLLECTIONS, is_bare_event, is_empty_node
from anchorpages.scalars import has_text


class Spot:
    """Where nodes come: a stream (none do), a document, or a collection."""

    def __init__(self, kind, form, room):
        self.kind = kind
        self.form = form
        self.room = room        # how many may come at most, -1 for any number
        self.many = 0           # how many came


class Walk:
    """Goes through bare events; at first they come at the spot that is passed."""

    def __init__(self, spot):
        self.spots = [spot]
        self.marked = True      # whether the begin of the document, or the end of the one ahead, is marked

    def is_over(self):
        """Whether all that has begun is whole."""
        return len(self.spots) == 1 and self.spots[0].many == self.spots[0].room

    def takes(self, row):
        """Whether this can come next; if so, it has come."""
        if not is_bare_event(row):
            return False
        kind = row[0]
        if kind == "document":
            return self.takes_document(row[1])
        if kind == "over":
            return self.takes_over(row[1])
        if kind == "close":
            return self.takes_close()
        return self.takes_node(row)

    def takes_document(self, marked):
        if self.spots[-1].kind != "stream" or not (marked or self.marked):
            return False
        self.marked = marked
        self.spots.append(Spot("document", "block", 1))
        return True

    def takes_over(self, marked):
        top = self.spots[-1]
        if top.kind != "document" or top.many == 0:
            return False
        self.marked = marked
        self.spots.pop()
        return True

    def takes_close(self):
        top = self.spots[-1]
        if len(self.spots) == 1 or top.kind not in COLLECTIONS:
            return False
        if (top.kind == "mapping" and top.many % 2 == 1) or (top.form == "block" and top.many == 0):
            return False
        self.spots.pop()
        return True

    def takes_node(self, row):
        top = self.spots[-1]
        if top.many == top.room or not self.may_stand(row, top):
            return False
        top.many += 1
        if row[0] in COLLECTIONS:
            self.spots.append(Spot(row[0], row[3], -1))
        return True

    def may_stand(self, row, top):
        """Whether a node that begins so can stand at a spot that has room for it."""
        if row[0] in COLLECTIONS:
            return row[3] == "flow" or top.form == "block"
        if row[0] == "alias":
            return True
        if is_empty_node(row):
            bare_document = top.kind == "document" and not self.marked
            bare_entry = top.kind == "sequence" and top.form == "flow"
            return row[1] is not None or row[2] is not None or not (bare_document or bare_entry)
        return has_text(row[4], row[3], top.form)


def check_stream(rows):
    """Raises NoEvents unless rows are the bare events of documents."""
    check_walk(Walk(Spot("stream", "block", 0)), rows)


def check_entry(rows, kind, form):
    """Raises NoEvents unless rows are those of the only entry of a collection."""
    check_walk(Walk(Spot(kind, form, 1 if kind == "sequence" else 2)), rows)


def check_walk(walk, rows):
    if not isinstance(rows, (list, tuple)):
        raise NoEvents(-1)
    for index, row in enumerate(rows):
        if not walk.takes(row):
            raise NoEvents(index)
    if not walk.is_over():
        raise NoEvents(len(rows))
