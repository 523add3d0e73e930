"""The MOVING STORE: the home goes to a NEIGHBOUR PIECE by PIECE, while all versions go on."""

from everyversion.copies import check_end
from everyversion.databases import copied
from everyversion.errors import IsHome, NoPiece, NotMoved, NotNeighbour
from everyversion.fitting import may_be_hidden
from everyversion.forms import are_rows, ascends, is_database, is_integer, is_tuple_of
from everyversion.leading import Step
from everyversion.pieces import hidden_in, hidden_of_part, is_piece, joined_part, led_part, other_side, part_of_pieces
from everyversion.pieces import pieces_in, touched_tables, without_pieces
from everyversion.store import copied_hiddens, is_store, view, with_home
from everyversion.storedeeds import do, grow, take_away
from everyversion.trees import edge_between, is_far_wide, is_live, is_tree, neighbours, schema_at


class Between:
    """The edge between a home and its goal."""

    def __init__(self, tree, home, goal):
        edge, side = edge_between(tree, home, goal)
        version, change = tree[1][edge - 1]
        self.edge = edge
        self.here = side
        self.there = other_side(side)
        self.schema = schema_at(tree, version)
        self.change = change
        self.is_goal_wide = is_far_wide(tree, home, goal)


def pieces_between(tree, home, goal, copies):
    """Return the ascending tuple of the PIECES of a home and its goal, of which the copies are told."""
    between = Between(tree, home, goal)
    if between.is_goal_wide:
        return pieces_in(between.schema, between.change, between.there, copies[goal])
    return pieces_in(between.schema, between.change, between.here, copies[home])


def _pieces_of(store, goal):
    """Return the ascending tuple of the PIECES of the home of a STORE and a goal."""
    home = store[2]
    return pieces_between(store[0], home, goal, {home: store[3], goal: view(store, goal)})


def is_amid(kept):
    """Whether a STORE or MOVING STORE is moving."""
    return len(kept) == 8


def copied_kept(kept):
    """Return an equal STORE or MOVING STORE."""
    if is_amid(kept):
        return kept[:5] + (copied(kept[5]), copied(kept[6]), copied_hiddens(kept[7]))
    return kept[:3] + (copied(kept[3]), copied_hiddens(kept[4]))


def _with_entries(hiddens, edge, entries):
    """Return what is HIDDEN at all edges with other entries at one, with none of it if they are None."""
    made = copied_hiddens(hiddens)
    made.pop(edge, None)
    if entries is not None:
        made[edge] = entries
    return copied_hiddens(made)


def moving_of(store, goal, moved):
    """Return the MOVING STORE of a STORE, some PIECES of which have moved to a goal."""
    tree, live, home, database, hiddens = store
    between = Between(tree, home, goal)
    schema, change = between.schema, between.change
    left = without_pieces(schema, change, between.here, database, moved)
    laid = part_of_pieces(schema, change, between.there, view(store, goal), moved)
    if between.is_goal_wide:
        there = hiddens[between.edge]
        gone = hidden_in(schema, change, there, moved)
        entries = {key: there[key] for key in there if key not in gone}
    else:
        entries = hidden_of_part(schema, change, part_of_pieces(schema, change, between.here, database, moved))
    return (tree, live, home, goal, moved, left, laid, _with_entries(hiddens, between.edge, entries))


def store_told(moving):
    """Return the STORE, with its home, that a MOVING STORE tells."""
    tree, live, home, goal, _, left, laid, hiddens = moving
    between = Between(tree, home, goal)
    there = hiddens[between.edge]
    database = joined_part(left, led_part(between.schema, between.change, between.there, laid, there))
    entries = {**there, **hidden_of_part(between.schema, between.change, laid)} if between.is_goal_wide else None
    return (tree, live, home, database, _with_entries(hiddens, between.edge, entries))


def as_store(kept):
    """Return the STORE that a STORE or MOVING STORE tells."""
    return store_told(kept) if is_amid(kept) else kept


def _is_laid(between, schema, thing):
    """Whether any value is a dict from the touched tables of the goal to rows that FIT, of whole PIECES."""
    tables = touched_tables(between.schema, between.change, between.there)
    if not isinstance(thing, dict) or len(thing) != len(tables):
        return False
    if not all([table in thing and are_rows(schema, table, thing[table]) for table in tables]):
        return False
    # A row that is parted stands in both tables; one that is split stands in one of them.
    is_parted = (between.change[0], between.there) in (("part table", "child"), ("put together", "parent"))
    return not is_parted or sorted(thing[tables[0]]) == sorted(thing[tables[1]])


def _are_hiddens(between, thing):
    """Whether any value is a dict from edges to what may be HIDDEN, that between home and goal being one."""
    if not isinstance(thing, dict) or not all([is_integer(edge) for edge in thing]) or between.edge not in thing:
        return False
    if not all([isinstance(told, dict) and all([is_integer(key) for key in told]) for told in thing.values()]):
        return False
    return may_be_hidden(Step(between.schema, between.change), thing[between.edge])


def _is_formed(thing):
    """Whether what a tuple of a TREE, LIVE versions and six more tells can be led from one side to the other."""
    tree, live, home, goal, moved, left, laid, hiddens = thing
    if not is_integer(home) or home not in live or not is_integer(goal) or goal not in neighbours(tree, live, home):
        return False
    between = Between(tree, home, goal)
    if not isinstance(moved, tuple) or not all([is_piece(piece) for piece in moved]) or not ascends(moved):
        return False
    if not is_database(schema_at(tree, home), left) or not _is_laid(between, schema_at(tree, goal), laid):
        return False
    return _are_hiddens(between, hiddens)


def is_moving(thing):
    """Whether any value is a MOVING STORE."""
    if not is_tuple_of(thing, 8) or not is_tree(thing[0]) or not is_live(thing[0], thing[1]) or not _is_formed(thing):
        return False
    store = store_told(thing)
    if not is_store(store):
        return False
    pieces = _pieces_of(store, thing[3])
    return all([piece in pieces for piece in thing[4]]) and moving_of(store, thing[3], thing[4]) == thing


def view_amid(moving, version):
    """Return the copy of a LIVE version."""
    return view(store_told(moving), version)


def begun(store, version):
    """Return the MOVING STORE of a STORE with a NEIGHBOUR of its home as the goal, nothing being moved."""
    if not is_integer(version) or version not in neighbours(store[0], store[1], store[2]):
        raise NotNeighbour(version)
    return moving_of(store, version, ())


def pieces_left(moving):
    """Return the ascending tuple of the PIECES that are not moved."""
    return tuple([piece for piece in _pieces_of(store_told(moving), moving[3]) if piece not in moving[4]])


def stepped(moving, piece):
    """Return the MOVING STORE in which a PIECE, any value, is moved as well."""
    if not is_piece(piece) or piece not in pieces_left(moving):
        raise NoPiece(piece)
    return moving_of(store_told(moving), moving[3], tuple(sorted(moving[4] + (piece,))))


def ended(moving):
    """Return the STORE whose home is the goal."""
    left = pieces_left(moving)
    if left != ():
        raise NotMoved(left[0])
    return with_home(store_told(moving), moving[3])


def turned_about(moving):
    """Return the MOVING STORE that keeps the same, home and goal being exchanged."""
    return moving_of(with_home(store_told(moving), moving[3]), moving[2], pieces_left(moving))


def do_amid(moving, version, transaction):
    """Return the tuple (answers, MOVING STORE) of a TRANSACTION of a LIVE version."""
    goal = moving[3]
    answers, store = do(store_told(moving), version, transaction)
    pieces = _pieces_of(store, goal)
    return (answers, moving_of(store, goal, tuple([piece for piece in moving[4] if piece in pieces])))


def grow_amid(moving, version, change):
    """Return the MOVING STORE with a new version to which a CHANGE of a LIVE version leads."""
    return moving_of(grow(store_told(moving), version, change), moving[3], moving[4])


def take_away_amid(moving, version):
    """Return the MOVING STORE without an END."""
    tree, live, _, goal = moving[:4]
    check_end(tree, live, version)
    if version == goal:
        raise IsHome(version)
    return moving_of(take_away(store_told(moving), version), goal, moving[4])
