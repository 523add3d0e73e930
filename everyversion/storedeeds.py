"""What is done to a STORE: transactions, new versions, versions taken away."""

from everyversion.copies import carried_on, change_between, check_end
from everyversion.databases import copied
from everyversion.errors import IsHome
from everyversion.fitting import first_carried, fitted
from everyversion.refusals import child_schema
from everyversion.running import run
from everyversion.store import copied_hiddens, copies_of, far_copy, hidden_at, steps_to, view, views
from everyversion.trees import edge_between, is_far_wide, neighbours, schema_at


def _carried_home(store, steps, old, database):
    """Return the dict of new copies on the path of steps from the home to a version that has a new DATABASE."""
    version = steps[-1][1] if steps != [] else store[2]
    new = {version: database}
    for near, far in steps[::-1]:
        new[near] = carried_on(store[0], far, near, new[far], old[near])
    return new


def _others(store, near, gone):
    """Return the list of tuples (near, far) of the NEIGHBOURS of near, but for those gone."""
    return [(near, far) for far in neighbours(store[0], store[1], near) if far not in gone]


def _refitted(store, old, new, hiddens):
    """Return what is HIDDEN fitted outwards from the new copies on the path from the home that are other ones now."""
    tree = store[0]
    made = dict(hiddens)
    old_of, new_of = dict(old), dict(new)
    todo = [pair for near in new if new[near] != old[near] for pair in _others(store, near, new)]
    while todo != []:
        near, far = todo.pop()
        edge, _ = edge_between(tree, near, far)
        old_of[far] = far_copy(tree, store[4], near, far, old_of[near])
        if is_far_wide(tree, near, far):
            schema, change, _ = change_between(tree, near, far)
            made[edge] = fitted(schema, change, hiddens[edge], new_of[near])
        new_of[far] = far_copy(tree, made, near, far, new_of[near])
        if new_of[far] != old_of[far]:
            todo.extend(_others(store, far, (near,)))
    return made


def do(store, version, transaction):
    """Return the tuple (answers, STORE) of a TRANSACTION of a LIVE version."""
    tree, live, home, _, _ = store
    steps = steps_to(store, version)
    old = views(store, steps)
    answers, database = run(schema_at(tree, version), old[version], transaction)
    new = _carried_home(store, steps, old, database)
    hiddens = copied_hiddens(store[4])
    for near, far in steps:
        if is_far_wide(tree, near, far):
            hiddens[edge_between(tree, near, far)[0]] = hidden_at(tree, near, far, new[far])
    return (answers, (tree, live, home, new[home], _refitted(store, old, new, hiddens)))


def grow(store, version, change):
    """Return the STORE with a new version to which a CHANGE of a LIVE version leads."""
    tree, live, home, _, hiddens = store
    schema = schema_at(tree, version)
    child_schema(schema, change)
    number = len(tree[1]) + 1
    bigger = (tree[0], tree[1] + ((version, change),))
    more = copied_hiddens(hiddens)
    if is_far_wide(bigger, version, number):
        database = first_carried(schema, change, "parent", view(store, version))
        more[number] = hidden_at(bigger, version, number, database)
    return (bigger, live + (number,), home, copied(store[3]), more)


def take_away(store, version):
    """Return the STORE without an END."""
    tree, live, home, _, hiddens = store
    check_end(tree, live, version)
    if version == home:
        raise IsHome(version)
    edge, _ = edge_between(tree, version, neighbours(tree, live, version)[0])
    left = {one: told for one, told in copied_hiddens(hiddens).items() if one != edge}
    return (tree, tuple([one for one in live if one != version]), home, copied(store[3]), left)


def is_beside(store, copies):
    """Whether a STORE tells just these COPIES."""
    return copies_of(store) == copies


def edges_touched(one, other):
    """Return the ascending tuple of the edges at which what is HIDDEN is unlike in two STORES."""
    return tuple([edge for edge in sorted(one[4]) if one[4][edge] != other[4][edge]])
