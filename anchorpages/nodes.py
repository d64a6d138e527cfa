"""What is a node of a graph, what is a row that tells one, and which numbers are in a node."""

from anchorpages.core import is_tag
from anchorpages.scalars import is_whole
from anchorpages.signs import BRACKETS, is_sign

MOST_NODES = 200
MOST_NUMBERS = 1000


def is_node(thing, many):
    """Whether this is a node of a graph that has so many of them."""
    if not isinstance(thing, tuple) or len(thing) != 3 or not is_tag(thing[1]):
        return False
    kind, _, content = thing
    if kind == "scalar":
        return isinstance(content, str)
    if not isinstance(content, tuple):
        return False
    if kind == "sequence":
        return len(content) <= MOST_NUMBERS and are_numbers(content, many)
    return kind == "mapping" and 2 * len(content) <= MOST_NUMBERS and all([is_entry(entry, many) for entry in content])


def is_entry(thing, many):
    """Whether this is a tuple of two numbers of nodes, of so many."""
    return isinstance(thing, tuple) and len(thing) == 2 and are_numbers(thing, many)


def are_numbers(things, many):
    return all([is_whole(thing, 0, many - 1) for thing in things])


def numbers_in(node):
    """The numbers in a node, one behind another."""
    kind, _, content = node
    if kind == "scalar":
        return []
    if kind == "sequence":
        return list(content)
    return [number for entry in content for number in entry]


def renumbered(node, numbers):
    """A node with the numbers that its own ones have in a list or dict."""
    kind, tag, content = node
    if kind == "scalar":
        return node
    if kind == "sequence":
        return (kind, tag, tuple([numbers[part] for part in content]))
    return (kind, tag, tuple([(numbers[key], numbers[value]) for key, value in content]))


def is_row(thing):
    """Whether this is a row, wherever it may stand."""
    if not isinstance(thing, tuple) or len(thing) == 0:
        return False
    if thing[0] == "close":
        return len(thing) == 1
    if thing[0] == "alias":
        return len(thing) == 2 and is_name(thing[1])
    if thing[0] == "scalar":
        return len(thing) == 4 and begins_node(thing) and isinstance(thing[3], str)
    return thing[0] in ("sequence", "mapping") and len(thing) == 3 and begins_node(thing)


def begins_node(row):
    """Whether a row of the right length tells a name, or none, and a tag."""
    return (row[1] is None or is_name(row[1])) and is_tag(row[2])


def is_name(thing):
    """Whether this is a name of an anchor."""
    return isinstance(thing, str) and thing != "" and all([is_sign(sign) and sign not in BRACKETS for sign in thing])
