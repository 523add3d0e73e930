"""The plain meaning: each LIVE version has a whole DATABASE, and follows what is done to the others."""

from everyversion.databases import copied, empty, is_right
from everyversion.errors import NotEnd
from everyversion.fitting import carried, first_carried
from everyversion.forms import is_database, is_integer
from everyversion.refusals import child_schema
from everyversion.running import run
from everyversion.sides import agree
from everyversion.trees import edge_between, ends_of, outwards, schema_at


def is_copy(tree, version, thing):
    """Whether any value is a RIGHT DATABASE of the SCHEMA of a version."""
    schema = schema_at(tree, version)
    return is_database(schema, thing) and is_right(schema, thing)


def change_between(tree, near, far):
    """Return the tuple (SCHEMA of the PARENT, CHANGE, side of near) of two NEIGHBOURS."""
    edge, side = edge_between(tree, near, far)
    version, change = tree[1][edge - 1]
    return (schema_at(tree, version), change, side)


def _agrees(tree, copies, version):
    """Whether the DATABASE of a version AGREES with that of the one from which an edge leads to it."""
    near, change = tree[1][version - 1]
    return agree(schema_at(tree, near), change, copies[near], copies[version])


def are_copies(tree, live, thing):
    """Whether any value is COPIES."""
    if not isinstance(thing, dict) or not all([is_integer(version) for version in thing]):
        return False
    if tuple(sorted(thing)) != live or not all([is_copy(tree, version, thing[version]) for version in live]):
        return False
    # As they hang together, an edge from another one leads to each but the first.
    return all([_agrees(tree, thing, version) for version in live[1:]])


def first_copies(tree, live):
    """Return the COPIES in which all tables are empty."""
    return {version: empty(schema_at(tree, version)) for version in live}


def carried_on(tree, near, far, new, old):
    """Return the DATABASE to which far follows a new one of near, old being its own."""
    schema, change, side = change_between(tree, near, far)
    return carried(schema, change, side, new, old)


def spread(tree, live, copies, version, database):
    """Return the COPIES that come of a new DATABASE of a version."""
    made = {version: copied(database)}
    for near, far in outwards(tree, live, version):
        made[far] = carried_on(tree, near, far, made[near], copies[far])
    return {one: made[one] for one in live}


def done(tree, live, copies, version, transaction):
    """Return the tuple (answers, COPIES) of a TRANSACTION of a version."""
    answers, database = run(schema_at(tree, version), copies[version], transaction)
    return (answers, spread(tree, live, copies, version, database))


def moved_versions(one, other):
    """Return the ascending tuple of the versions whose DATABASES are unlike."""
    return tuple([version for version in sorted(one) if one[version] != other[version]])


def grown(tree, live, copies, version, change):
    """Return the tuple (tree, live, COPIES) with a new version to which a CHANGE of a version leads."""
    schema = schema_at(tree, version)
    child_schema(schema, change)
    made = {one: copied(copies[one]) for one in live}
    number = len(tree[1]) + 1
    made[number] = first_carried(schema, change, "parent", copies[version])
    return ((tree[0], tree[1] + ((version, change),)), live + (number,), made)


def check_end(tree, live, version):
    """Raise NotEnd for a version that is no END, or the only LIVE one."""
    if version not in ends_of(tree, live) or len(live) == 1:
        raise NotEnd(version)


def taken_away(tree, live, copies, version):
    """Return the tuple (live, COPIES) without an END."""
    check_end(tree, live, version)
    left = tuple([one for one in live if one != version])
    return (left, {one: copied(copies[one]) for one in left})
