"""The STORE: the DATABASE of the home, and what is HIDDEN at each edge whose far end is wide."""

from everyversion.copies import change_between, is_copy
from everyversion.databases import copied, rows_many
from everyversion.fitting import fits
from everyversion.forms import is_integer
from everyversion.sides import full, hidden, narrowed
from everyversion.trees import edge_between, is_far_wide, is_live, is_tree, outwards, path


def far_copy(tree, hiddens, near, far, database):
    """Return the copy of far, that of near being told."""
    schema, change, _ = change_between(tree, near, far)
    if not is_far_wide(tree, near, far):
        return narrowed(schema, change, database)
    edge, _ = edge_between(tree, near, far)
    return full(schema, change, database, hiddens[edge])


def hidden_at(tree, near, far, database):
    """Return what is HIDDEN of the copy of far, which is wide."""
    schema, change, _ = change_between(tree, near, far)
    return hidden(schema, change, database)


def copied_hiddens(hiddens):
    """Return an equal dict from edges to what is HIDDEN there, all of it in order."""
    return {edge: {key: hiddens[edge][key] for key in sorted(hiddens[edge])} for edge in sorted(hiddens)}


def _wide_edges(tree, live, home):
    """Return the list of tuples (edge, near, far) of all far ends, seen from the home, that are wide."""
    pairs = [(near, far) for near, far in outwards(tree, live, home) if is_far_wide(tree, near, far)]
    return sorted([(edge_between(tree, near, far)[0], near, far) for near, far in pairs])


def _do_fit(tree, live, home, database, hiddens):
    """Whether what is HIDDEN at each edge FITS the copy of its near end."""
    copies = {home: database}
    for near, far in outwards(tree, live, home):
        if is_far_wide(tree, near, far):
            schema, change, _ = change_between(tree, near, far)
            if not fits(schema, change, copies[near], hiddens[edge_between(tree, near, far)[0]]):
                return False
        copies[far] = far_copy(tree, hiddens, near, far, copies[near])
    return True


def is_store(thing):
    """Whether any value is a STORE."""
    if not isinstance(thing, tuple) or len(thing) != 5 or not is_tree(thing[0]) or not is_live(thing[0], thing[1]):
        return False
    tree, live, home, database, hiddens = thing
    if not is_integer(home) or home not in live or not is_copy(tree, home, database):
        return False
    if not isinstance(hiddens, dict) or not all([is_integer(edge) for edge in hiddens]):
        return False
    if sorted(hiddens) != [edge for edge, _, _ in _wide_edges(tree, live, home)]:
        return False
    return _do_fit(tree, live, home, database, hiddens)


def views(store, steps):
    """Return the dict from versions to their copies, of the home and all far ends of steps (near, far) from it."""
    tree, _, home, database, hiddens = store
    found = {home: copied(database)}
    for near, far in steps:
        found[far] = far_copy(tree, hiddens, near, far, found[near])
    return found


def steps_to(store, version):
    """Return the list of tuples (near, far) on the path from the home to a version."""
    versions = path(store[0], store[1], store[2], version)
    return list(zip(versions, versions[1:]))


def view(store, version):
    """Return the copy of a LIVE version."""
    return views(store, steps_to(store, version))[version]


def copies_of(store):
    """Return the COPIES that a STORE tells."""
    found = views(store, outwards(store[0], store[1], store[2]))
    return {version: found[version] for version in store[1]}


def store_of(tree, live, home, copies):
    """Return the one STORE with this home that tells these COPIES."""
    hiddens = {edge: hidden_at(tree, near, far, copies[far]) for edge, near, far in _wide_edges(tree, live, home)}
    return (tree, live, home, copied(copies[home]), hiddens)


def kept_many(store):
    """Return the tuple of the number of rows of the home's DATABASE, and of those of all COPIES together."""
    return (rows_many(store[3]), sum([rows_many(database) for database in copies_of(store).values()]))


def with_home(store, version):
    """Return the STORE with another home that tells the same COPIES."""
    tree, live, _, _, hiddens = store
    steps = steps_to(store, version)
    found = views(store, steps)
    turned = copied_hiddens(hiddens)
    for near, far in steps:
        edge, _ = edge_between(tree, near, far)
        # What was far is near now.
        turned.pop(edge, None)
        if is_far_wide(tree, far, near):
            turned[edge] = hidden_at(tree, far, near, found[near])
    return (tree, live, version, found[version], {edge: turned[edge] for edge in sorted(turned)})
