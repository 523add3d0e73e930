"""PIECES: what belongs together on both sides of a CHANGE; PARTS of DATABASES, which have the rows of some of them."""

from everyversion.changes import named_below, named_tables
from everyversion.databases import part_of, without_part
from everyversion.forms import is_integer, is_name, is_tuple_of
from everyversion.leading import Step, hidden_of, rows_full, rows_narrowed
from everyversion.ways import refs_to


def is_piece(thing):
    """Whether any value is a tuple of a NAME and a KEY."""
    return is_tuple_of(thing, 2) and is_name(thing[0]) and is_integer(thing[1])


def other_side(side):
    """Return the side that a side is not."""
    return "parent" if side == "child" else "child"


def _named_at(change, side):
    """Return the ascending tuple of the tables of a side that a CHANGE names."""
    return named_tables(change) if side == "parent" else named_below(change)


def _with_leading(schema, change, tables):
    """Return the ascending tuple of tables, and, if keys move, of those that lead to these keys."""
    if change[0] != "move keys":
        return tables
    return tuple(sorted(set(list(tables) + [table for table, _ in refs_to(schema, change[1])])))


def piece_tables(schema, change):
    """Return the ascending tuple of the tables that PIECES of a CHANGE can have."""
    table = change[3] if change[0] == "join tables" else change[1]
    return _with_leading(schema, change, (table,))


def touched_tables(schema, change, side):
    """Return the ascending tuple of the tables of a side in which rows of PIECES can stand."""
    return _with_leading(schema, change, _named_at(change, side))


def _more(change, side, table):
    """Return how much more the keys of a table are on a side than those of its PIECES."""
    return change[2] if change[0] == "move keys" and side == "child" and table == change[1] else 0


def stands_at(schema, change, side, piece):
    """Return the ascending tuple of the tuples (table, key) at which rows of a PIECE can stand on a side."""
    table, key = piece
    if change[0] == "move keys":
        return ((table, key + _more(change, side, table)),)
    return tuple([(name, key) for name in _named_at(change, side)])


def pieces_in(schema, change, side, database):
    """Return the ascending tuple of the PIECES of which some row stands in a DATABASE of a side."""
    found = []
    for table in touched_tables(schema, change, side):
        name = table if change[0] == "move keys" else piece_tables(schema, change)[0]
        found.extend([(name, key - _more(change, side, table)) for key in database[table]])
    return tuple(sorted(set(found)))


def _keys_of_pieces(schema, change, side, pieces):
    """Return the dict from the touched tables of a side to the keys at which rows of some PIECES can stand."""
    found = {table: [] for table in touched_tables(schema, change, side)}
    for piece in pieces:
        for table, key in stands_at(schema, change, side, piece):
            found[table].append(key)
    return found


def part_of_pieces(schema, change, side, database, pieces):
    """Return the PART of a DATABASE of a side that has just the rows of some PIECES."""
    return part_of(database, _keys_of_pieces(schema, change, side, pieces))


def without_pieces(schema, change, side, database, pieces):
    """Return the dict from all tables of a side to the rows that are left without those of some PIECES."""
    return without_part(database, _keys_of_pieces(schema, change, side, pieces))


def joined_part(database, part):
    """Return a dict from tables to rows with all rows of a PART."""
    made = {}
    tables = sorted(set(database) | set(part))
    for table in tables:
        rows = {**database.get(table, {}), **part.get(table, {})}
        made[table] = {key: rows[key] for key in sorted(rows)}
    return made


def led_part(schema, change, side, part, hidden):
    """Return the PART of the other side that a PART of a side, and what is HIDDEN of it, tell."""
    step = Step(schema, change)
    tables = touched_tables(schema, change, other_side(side))
    if step.is_parent_wide == (side == "parent"):
        return rows_narrowed(step, part, tables)
    return rows_full(step, part, hidden, tables)


def hidden_of_part(schema, change, part):
    """Return what is HIDDEN of a PART of the WIDE side."""
    return hidden_of(Step(schema, change), part)


def hidden_in(schema, change, hidden, pieces):
    """Return the entries of what is HIDDEN that belong to some PIECES."""
    # Where something is HIDDEN the keys are those of the one table that the change names.
    return {key: hidden[key] for key in sorted(hidden) if (change[1], key) in pieces}
