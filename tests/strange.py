"""Objects of many kinds, to be passed where they are not valid."""

from anchorpages.errors import NoGraph, Refused
from anchorpages.graphs import Graph
from anchorpages.numbers import Number


def own_list():
    told = []
    told.append(told)
    return told


LEAF = Graph([("scalar", "!!str", "a")])
WHOLE = [-10 ** 30, -3, -2, -1, 0, 1, 2, 7, 49, 50, 51, 99, 100, 101, 10 ** 30]
NO_WHOLE = [
    None, True, False, 0.0, 1.0, -0.5, float("nan"), float("inf"), 1j, 0j, "", "0", "a", "!!str", "scalar", "core", b"", b"a", bytearray(b"a"),
    memoryview(b"a"), {}, {0: 1}, {"a": []}, set(), {1}, frozenset(), frozenset({0}), object(), Ellipsis, NotImplemented, int, str, list,
    type(None), len, "".join, range(0), range(3), slice(0), iter([]), iter(()), zip(), enumerate([]), property(), Exception("a"), KeyError(),
    Graph, Number, NoGraph, NoGraph(-1), Refused(0), LEAF, Number("!!int", "1"), Number("!!float", ".nan"), (lambda: 0)]
LISTS = [[], (), [None], (None,), [0], (0,), [[]], [()], ([],), ((),), [0, 0], (0, 0), [(0, 0)], ((0, 0),), own_list(), ["a"], ("a",), [True], [LEAF]]
ALL = WHOLE + NO_WHOLE + LISTS
NO_LISTS = WHOLE + NO_WHOLE
NO_GRAPHS = [thing for thing in ALL if thing is not LEAF]
