"""TREES of versions, which of them are LIVE, and what lies between these."""

from everyversion.changes import child_by, is_change
from everyversion.forms import ascends, is_integer, is_schema, is_tuple_of
from everyversion.refusals import refusal
from everyversion.sides import wide_side


def schemas_of(tree):
    """Return the list of the SCHEMAS of all versions."""
    found = [tree[0]]
    for version, change in tree[1]:
        found.append(child_by(found[version], change))
    return found


def _is_edge(schemas, thing):
    """Whether any value is an edge from one of the versions that have these SCHEMAS, by a CHANGE that is taken."""
    if not is_tuple_of(thing, 2) or not is_integer(thing[0]) or not 0 <= thing[0] < len(schemas):
        return False
    return is_change(thing[1]) and refusal(schemas[thing[0]], thing[1]) is None


def is_tree(thing):
    """Whether any value is a TREE."""
    if not is_tuple_of(thing, 2) or not is_schema(thing[0]) or not isinstance(thing[1], tuple):
        return False
    schemas = [thing[0]]
    for edge in thing[1]:
        if not _is_edge(schemas, edge):
            return False
        schemas.append(child_by(schemas[edge[0]], edge[1]))
    return True


def schema_at(tree, version):
    """Return the SCHEMA of a version, LIVE or not."""
    changes = []
    at = version
    while at > 0:
        at, change = tree[1][at - 1]
        changes.append(change)
    schema = tree[0]
    for change in changes[::-1]:
        schema = child_by(schema, change)
    return schema


def neighbours(tree, live, version):
    """Return the ascending tuple of the NEIGHBOURS of a LIVE version."""
    children = [far for far in live if far > 0 and tree[1][far - 1][0] == version]
    parents = [tree[1][version - 1][0]] if version > 0 else []
    return tuple([far for far in parents if far in live] + children)


def outwards(tree, live, version):
    """Return the list of tuples (near, far), all LIVE versions but this one being far, ever farther from it."""
    found = []
    here = [(version, version)]
    while here != []:
        # Of what is as far from the version as here, each has one near, so by far they ascend.
        pairs = [(near, far) for came, near in here for far in neighbours(tree, live, near) if far != came]
        here = sorted(pairs, key=lambda pair: pair[1])
        found.extend(here)
    return found


def is_live(tree, thing):
    """Whether any value is LIVE versions of a TREE."""
    if not isinstance(thing, tuple) or len(thing) == 0:
        return False
    if not all([is_integer(version) and 0 <= version <= len(tree[1]) for version in thing]) or not ascends(thing):
        return False
    # They hang together if all are reached from the first one.
    return len(outwards(tree, thing, thing[0])) == len(thing) - 1


def edge_between(tree, one, other):
    """Return the tuple (edge, side) of two NEIGHBOURS, side being "parent" or "child" as one is."""
    return (other, "parent") if one < other else (one, "child")


def path(tree, live, one, other):
    """Return the tuple of the versions on the path from one to the other, both among them."""
    near_of = {far: near for near, far in outwards(tree, live, other)}
    found = [one]
    while found[-1] != other:
        found.append(near_of[found[-1]])
    return tuple(found)


def ends_of(tree, live):
    """Return the ascending tuple of the ENDS."""
    return tuple([version for version in live if len(neighbours(tree, live, version)) < 2])


def is_far_wide(tree, near, far):
    """Whether far is on the WIDE side of the edge between it and near."""
    edge, side = edge_between(tree, far, near)
    version, change = tree[1][edge - 1]
    return wide_side(schema_at(tree, version), change) == side
