"""Pages: texts with what was done with them, their logs, and answers to rows."""

from anchorpages.edits import changed, dropped, put, renamed, rewritten
from anchorpages.errors import NoLine, NoLog, PageError
from anchorpages.reader import read, refused
from anchorpages.rows import bare
from anchorpages.sayings import parts_of, quoted, told_event
from anchorpages.signs import FEED
from anchorpages.writers import events_text

DEEDS = ("rename", "rewrite", "drop", "put", "undo", "redo")


class Page:
    """A text, the deeds that changed it, and those that were taken back."""

    def __init__(self, text):
        read(text)
        self._first = text
        self._texts = [text]    # at first, and behind each deed that holds
        self._deeds = []        # those that hold
        self._undone = []       # those that were taken back, each with the text behind it
        self._rows = []         # those of the log, behind the first one

    def current(self):
        """The text as it is now."""
        return self._texts[-1]

    def rename(self, k, name):
        """Gives an anchor, and the aliases of its node, another name."""
        changes = renamed(self.current(), k, name)
        self._keep(("rename", k, name), changes, f"rename {k} {name}")

    def rewrite(self, k, style, value):
        """Gives a scalar another style and value."""
        changes = rewritten(self.current(), k, style, value)
        self._keep(("rewrite", k, style, value), changes, f"rewrite {k} {style} {quoted(value)}")

    def drop(self, k):
        """Lets an entry go."""
        changes = dropped(self.current(), k)
        self._keep(("drop", k), changes, f"drop {k}")

    def put(self, k, at, rows):
        """Puts a new entry into a collection."""
        changes = put(self.current(), k, at, rows)
        text = entry_text(rows, self._kind(k))
        self._keep(("put", k, at, tuple(rows)), changes, f"put {k} {at} {quoted(text)}")

    def undo(self):
        """Takes the last deed back that holds; tells whether there is one."""
        if not self._deeds:
            return False
        self._undone.append((self._deeds.pop(), self._texts.pop()))
        self._rows.append("undo")
        return True

    def redo(self):
        """Does the last deed again that was taken back; tells whether there is one."""
        if not self._undone:
            return False
        deed, text = self._undone.pop()
        self._deeds.append(deed)
        self._texts.append(text)
        self._rows.append("redo")
        return True

    def past(self):
        """The deeds that hold, in their order."""
        return list(self._deeds)

    def log(self):
        """The rows of what was done, from which the page can be had again."""
        return FEED.join(["page " + quoted(self._first)] + self._rows)

    def say(self, line):
        """Answers a row: does what it asks for, or tells it."""
        parts = parts_of(line)
        if parts is None or parts[0] == "page":
            raise NoLine(line)
        if parts[0] in ("undo", "redo"):
            return "yes" if self.does(parts) else "no"
        if parts[0] in DEEDS:
            return "ok" if self.does(parts) else "refused"
        if parts[0] == "text":
            return quoted(self.current())
        events = read(self.current())
        if parts[0] == "count":
            return str(len(events))
        if parts[1] >= len(events):
            raise NoLine(line)
        return told_event(events[parts[1]])

    def _keep(self, deed, changes, row):
        """Keeps a deed that is done by these changes."""
        self._texts.append(changed(self.current(), changes))
        self._deeds.append(deed)
        self._undone = []
        self._rows.append(row)

    def _kind(self, k):
        """The kind of event k, None if it is not there."""
        events = read(self.current())
        return events[k][0] if k < len(events) else None

    def does(self, parts):
        """Does what the parts of a row ask for; tells whether it can be done."""
        if parts[0] == "undo":
            return self.undo()
        if parts[0] == "redo":
            return self.redo()
        try:
            self._do(parts)
        except PageError:
            return False
        return True

    def _do(self, parts):
        """Does the deed of a row."""
        verb, k = parts[:2]
        if verb == "rename":
            self.rename(k, parts[2])
        elif verb == "rewrite":
            self.rewrite(k, parts[2], parts[3])
        elif verb == "drop":
            self.drop(k)
        else:
            self.put(k, parts[2], entry_rows(parts[3], self._kind(k)))


def entry_text(rows, kind):
    """The text of one document with an entry of a collection of this kind."""
    inner = list(rows)
    if kind == "mapping":
        inner = [("mapping", None, None, "block")] + inner + [("close",)]
    return events_text([("document", True)] + inner + [("over", False)])


def entry_rows(text, kind):
    """The bare events of an entry of which this is the very text; None if there are none."""
    rows = bare(read(text))
    inner = rows[2:-2] if kind == "mapping" else rows[1:-1]
    return inner if entry_text(inner, kind) == text else None


def replayed(log):
    """A page on which all was done that a log tells."""
    if not isinstance(log, str):
        raise NoLog(-1)
    rows = log.split(FEED)
    parts = parts_of(rows[0])
    if parts is None or parts[0] != "page" or refused(parts[1]) is not None:
        raise NoLog(0)
    page = Page(parts[1])
    for index in range(1, len(rows)):
        parts = parts_of(rows[index])
        if parts is None or parts[0] not in DEEDS or not page.does(parts):
            raise NoLog(index)
    return page
