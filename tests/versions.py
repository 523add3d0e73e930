"""A TREE with COPIES, and the STORES that tell these, for several tests."""

from samples import ALWAYS, turned_about

SCHEMA = ((("t", ((("a", ("int",)),), ALWAYS)),), ())
# 1 has a column b more, 2 calls a otherwise, 3 has a table beside 1, which leads to t, 4 is without a.
TREE = (SCHEMA, (
    (0, ("add column", "t", "b", ("below", 5), 2)),
    (0, ("call column", "t", "a", "x")),
    (1, ("add table", "n", ((("of", ("ref", "t")), ("up", ("may", "n"))), ALWAYS))),
    (2, ("drop column", "t", "x", 9)),
))
LIVE = (0, 1, 2, 3, 4)
COPIES = {
    0: {"t": {7: (30,), 8: (9,)}},
    1: {"t": {7: (30, 4), 8: (9, 2)}},
    2: {"t": {7: (30,), 8: (9,)}},
    3: {"n": {1: (7, 2), 2: (8, 2), 3: (7, None)}, "t": {7: (30, 4), 8: (9, 2)}},
    4: {"t": {7: (), 8: ()}},
}


def put(column, expression, where=ALWAYS):
    return ("set", "t", where, column, expression)


# What is hidden at the edges, for each home: only at far ends that are wide.
HIDDENS = {
    0: {1: {7: 4}, 2: {}, 3: {1: (7, 2), 2: (8, 2), 3: (7, None)}},
    1: {2: {}, 3: {1: (7, 2), 2: (8, 2), 3: (7, None)}},
    2: {1: {7: 4}, 3: {1: (7, 2), 2: (8, 2), 3: (7, None)}},
    3: {2: {}},
    4: {1: {7: 4}, 3: {1: (7, 2), 2: (8, 2), 3: (7, None)}, 4: {7: 30}},
}


def store_at(home):
    return (TREE, LIVE, home, COPIES[home], HIDDENS[home])


def turned(store):
    """Return an equal STORE, the keys of its dicts in another order."""
    return store[:3] + (turned_about(store[3]), turned_about(store[4]))
