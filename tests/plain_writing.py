"""A second, plain way to tell which bare events are documents, and to write them: trees, by the words
of the document. Of the package it uses `fits` and `written` alone."""

import re

from anchorpages.scalars import fits, written

NAME = r"[!-~]+"
TAG = r"![-A-Za-z0-9#;/?:@&=+$_.~*'()]*|!![-A-Za-z0-9#;/?:@&=+$_.~*'()]+"
STYLES = ("plain", "single", "double", "literal", "folded")


class Wrong(Exception):
    pass


def is_name(thing):
    return type(thing) is str and re.fullmatch(NAME, thing) is not None and not set(thing) & set(",[]{}")


def is_value(thing):
    return type(thing) is str and len(thing) <= 3000 and all(sign in "\t\n" or " " <= sign <= "~" for sign in thing)


def is_row(thing):
    if type(thing) is not tuple or not thing or type(thing[0]) is not str:
        return False
    kind = thing[0]
    if kind in ("document", "over"):
        return len(thing) == 2 and type(thing[1]) is bool
    if kind == "alias":
        return len(thing) == 2 and is_name(thing[1])
    if kind == "close":
        return len(thing) == 1
    if kind not in ("scalar", "sequence", "mapping") or len(thing) != (5 if kind == "scalar" else 4):
        return False
    if not (thing[1] is None or is_name(thing[1])):
        return False
    if not (thing[2] is None or (type(thing[2]) is str and re.fullmatch(TAG, thing[2]))):
        return False
    if kind == "scalar":
        return type(thing[3]) is str and thing[3] in STYLES and is_value(thing[4])
    return type(thing[3]) is str and thing[3] in ("block", "flow")


class Node:
    def __init__(self, row, parts):
        self.kind = row[0]
        self.row = row
        self.parts = parts
        self.props = [] if self.kind == "alias" else ["&" + name for name in row[1:2] if name is not None] + [tag for tag in row[2:3] if tag is not None]
        self.empty = self.kind == "scalar" and row[3:] == ("plain", "")
        self.flow = self.kind in ("sequence", "mapping") and row[3] == "flow"
        self.block = self.kind in ("sequence", "mapping") and row[3] == "block"


def need(holds):
    if not holds:
        raise Wrong()


def node_of(rows, p, where):
    """The node that begins at rows[p], and the index behind it; where is "bare" or "marked" for a
    document, otherwise the form and the kind of the collection."""
    need(p < len(rows) and is_row(rows[p]) and rows[p][0] not in ("document", "over", "close"))
    row = rows[p]
    node = Node(row, [])
    inside = where.startswith("flow")
    if node.kind == "scalar":
        if node.empty:
            need(node.props or where not in ("bare", "flow sequence"))
        else:
            need(fits(row[4], row[3], "flow" if inside else "block"))
    if node.kind in ("scalar", "alias"):
        return node, p + 1
    need(node.flow or not inside)
    p += 1
    while p < len(rows) and rows[p] != ("close",):
        part, p = node_of(rows, p, row[3] + " " + row[0])
        node.parts.append(part)
    need(p < len(rows))
    need(node.flow or node.parts)
    need(node.kind == "sequence" or len(node.parts) % 2 == 0)
    return node, p + 1


def documents_of(rows):
    """Triples: whether the begin is marked, the node, whether the end is."""
    found = []
    p = 0
    while p < len(rows):
        need(is_row(rows[p]) and rows[p][0] == "document")
        marked = rows[p][1]
        need(marked or not found or found[-1][2])
        node, p = node_of(rows, p + 1, "marked" if marked else "bare")
        need(p < len(rows) and is_row(rows[p]) and rows[p][0] == "over")
        found.append((marked, node, rows[p][1]))
        p += 1
    return found


def entry_of(rows, kind, form):
    """The nodes of an entry."""
    need(type(rows) in (list, tuple))
    found = []
    p = 0
    for _ in range(1 if kind == "sequence" else 2):
        node, p = node_of(rows, p, form + " " + kind)
        found.append(node)
    need(p == len(rows))
    return found


def is_right(work, *told):
    try:
        work(*told)
    except Wrong:
        return False
    return True


FILL = ("scalar", None, None, "double", "a")


def completed(rows, base):
    """The rows with what would end all that has begun; base is (None, None) for documents, otherwise
    the kind and the form of the collection."""
    stack = [list(base) + [0]]
    for row in rows:
        if type(row) is not tuple or not row:
            break
        if row[0] in ("close", "over"):
            if len(stack) > 1:
                stack.pop()
        elif row[0] == "document":
            stack.append(["document", None, 0])
        else:
            stack[-1][2] += 1
            if row[0] in ("sequence", "mapping"):
                stack.append([row[0], row[-1], 0])
    more = []
    for kind, form, many in stack[:0:-1]:
        if kind == "document":
            more += [FILL] * (many == 0) + [("over", False)]
        else:
            more += [FILL] * ((many % 2 if kind == "mapping" else 0) or (2 if kind == "mapping" else 1) * (form == "block" and many == 0)) + [("close",)]
    if base[0] is not None:
        more += [FILL] * ((1 if base[0] == "sequence" else 2) - stack[0][2])
    return list(rows) + more


def wrong_index(rows, kind=None, form=None):
    """The index that NoEvents tells, None if the rows are right."""
    if type(rows) not in (list, tuple):
        return -1
    rows = list(rows)
    work = (lambda each: documents_of(each)) if kind is None else (lambda each: entry_of(each, kind, form))
    if is_right(work, rows):
        return None
    for many in range(1, len(rows) + 1):
        if not is_right(work, completed(rows[:many], (kind, form))):
            return many - 1
    return len(rows)


# The text

def single(node, column):
    head = " ".join(node.props)
    if node.empty:
        return head
    if node.kind == "alias":
        body = "*" + node.row[1]
    elif node.kind == "scalar":
        body = written(node.row[4], node.row[3], "block", column + 2, 0, 2)
    elif node.kind == "sequence":
        body = "[" + ", ".join([single(part, column) for part in node.parts]) + "]"
    else:
        body = "{" + ", ".join([flow_pair(*node.parts[at:at + 2], column) for at in range(0, len(node.parts), 2)]) + "}"
    return head + " " + body if head else body


def flow_pair(key, value, column):
    worth = single(value, column)
    return key_text(key, column) + ":" + (" " + worth if worth else "")


def key_text(key, column):
    return single(key, column) + (" " if key.kind == "alias" or (key.empty and key.props) else "")


def behind(node, column):
    """What stands behind `-`, `?` or `:` in a collection of this column."""
    if not node.block:
        text = single(node, column)
        return (" " + text if text else "") + "\n"
    if node.props:
        return " " + " ".join(node.props) + "\n" + entries(node, column + 2)
    return " " + entries(node, column + 2)[column + 2:]


def is_short(key, column):
    if key.block or (key.kind == "scalar" and key.row[3] in ("literal", "folded")):
        return False
    text = single(key, column)
    return "\n" not in text and not (column == 0 and (text.startswith("--- ") or text.startswith("... ")))


def block_pair(key, value, column):
    blanks = " " * column
    if not is_short(key, column):
        return blanks + "?" + behind(key, column) + blanks + ":" + behind(value, column)
    begin = blanks + key_text(key, column) + ":"
    if value.block:
        return begin + "".join([" " + part for part in value.props]) + "\n" + entries(value, column + 2)
    return begin + behind(value, column)


def entries(node, column):
    if node.kind == "sequence":
        return "".join([" " * column + "-" + behind(part, column) for part in node.parts])
    return "".join([block_pair(*node.parts[at:at + 2], column) for at in range(0, len(node.parts), 2)])


def document_text(marked, node, ended):
    if node.block:
        line = ("---" if marked else "") + "".join([" " + part for part in node.props])
        if not marked:
            line = line[1:]
        text = (line + "\n" if line else "") + entries(node, 0)
    else:
        text = single(node, -1)
        if marked:
            text = "---" + (" " + text if text else "")
        elif re.match(r"(---|\.\.\.)([ \n]|\Z)", text):
            text = " " + text
        text += "\n"
    return text + ("...\n" if ended else "")


def stream_text(rows):
    return "".join([document_text(*told) for told in documents_of(rows)])


def entry_text(rows, kind, form, column):
    nodes = entry_of(rows, kind, form)
    if form == "flow":
        return single(nodes[0], column) if kind == "sequence" else flow_pair(*nodes, column)
    return " " * column + "-" + behind(nodes[0], column) if kind == "sequence" else block_pair(*nodes, column)


# Rows by chance

NAMES = ["x", "y", "x", "a1", ":", "b:", "#", "&*!", "s", "-", "\"", "'"]
TAGS = ["!", "!t", "!!t", "!!int", "!a:b", "!!#", "!:", "!~*'()"]
VALUES = ["a", "b c", "", "", " ", "\n", "\t", "a\nb", "a\n\nb", " a", "a ", "a: b", "a #b", "a:b", "a#b", "--- a", "... a", "---", "...", "--- a\nb", "a\n--- b",
          "a\n...", "-", "?", ":", "- a", "-a", "?a", ":a", "a:", "[a]", "a,b", "{", "it's", "'", "\"", "\\", "a\\nb", "\ta", "a\tb", " a\nb", "a\n b", "\na", "a\n",
          "a\n\n", "\n\n", "a\n\n\n", "a b c d e", "#", "&a", "*a", "!a", "|", ">", "~", "null", "12", "|\n", "a\n b\nc\n", "\n\n a\n", "a\nb\n\n", "@", "`"]


def drawn_scalar(chance, inside, bare):
    """The row of a scalar that may stand there; an empty node only where it may be bare, or with properties."""
    anchor = chance.choice(NAMES) if chance.random() < 0.15 else None
    tag = chance.choice(TAGS) if chance.random() < 0.15 else None
    while True:
        style, value = chance.choice(STYLES), chance.choice(VALUES)
        if (style, value) == ("plain", ""):
            if bare or anchor is not None or tag is not None:
                return ("scalar", anchor, tag, style, value)
        elif fits(value, style, "flow" if inside else "block"):
            return ("scalar", anchor, tag, style, value)


def drawn_node(chance, deep, inside=False, bare=True, flow=0.3):
    way = chance.random()
    if way < 0.1:
        return [("alias", chance.choice(NAMES))]
    if way < 0.5 or deep == 0:
        return [drawn_scalar(chance, inside, bare)]
    anchor = chance.choice(NAMES) if chance.random() < 0.2 else None
    tag = chance.choice(TAGS) if chance.random() < 0.2 else None
    kind = "sequence" if way < 0.72 else "mapping"
    inner = inside or chance.random() < flow
    rows = [(kind, anchor, tag, "flow" if inner else "block")]
    for _ in range((1 if kind == "sequence" else 2) * chance.randrange(0 if inner else 1, 4)):
        rows += drawn_node(chance, deep - 1, inner, not (inner and kind == "sequence"), flow)
    return rows + [("close",)]


def drawn_rows(chance, deep=3, most=3):
    rows = []
    ended = True
    for _ in range(chance.randrange(most + 1)):
        marked = not ended or chance.random() < 0.5
        ended = chance.random() < 0.4
        rows += [("document", marked)] + drawn_node(chance, deep, False, marked) + [("over", ended)]
    return rows


def drawn_entry(chance, kind, form, deep=2):
    rows = []
    for _ in range(1 if kind == "sequence" else 2):
        rows += drawn_node(chance, deep, form == "flow", not (form == "flow" and kind == "sequence"))
    return rows
