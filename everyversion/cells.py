"""CELLS: what a STORE or MOVING STORE keeps, by ADDRESSES."""

from everyversion.copies import change_between
from everyversion.moving import is_amid
from everyversion.pieces import touched_tables
from everyversion.trees import schema_at
from everyversion.ways import tables_of


def _row_cells(word, rows):
    """Return the cells of all rows of some tables, under ADDRESSES that begin with a word."""
    return {(word, table, key): rows[table][key] for table in rows for key in rows[table]}


def _hidden_cells(hiddens):
    """Return the cells of what is HIDDEN at all edges."""
    edges = {("hidden", edge): True for edge in hiddens}
    entries = {("hidden", edge, key): hiddens[edge][key] for edge in hiddens for key in hiddens[edge]}
    return {**edges, **entries}


def _moving_cells(moving):
    """Return the cells that a STORE has not, and a MOVING STORE has."""
    moved = {("moved", table, key): True for table, key in moving[4]}
    laid = _row_cells("laid", moving[6])
    return {("goal",): moving[3], **moved, **laid}


def cells_of(kept):
    """Return the CELLS of a STORE or MOVING STORE."""
    rows = _row_cells("row", kept[5] if is_amid(kept) else kept[3])
    hiddens = _hidden_cells(kept[-1])
    more = _moving_cells(kept) if is_amid(kept) else {}
    cells = {("tree",): kept[0], ("live",): kept[1], ("home",): kept[2], **rows, **hiddens, **more}
    return {address: cells[address] for address in sorted(cells)}


def _rows_in(cells, word, tables):
    """Return the dict from tables to the rows whose ADDRESSES begin with a word."""
    found = {table: {} for table in tables}
    for address in sorted(cells):
        if address[0] == word:
            found[address[1]][address[2]] = cells[address]
    return found


def _hiddens_in(cells):
    """Return what is HIDDEN at all edges."""
    found = {}
    # The cell that tells the edge comes ahead of those of its entries.
    for address in sorted(cells):
        if address[0] == "hidden" and len(address) == 2:
            found[address[1]] = {}
        elif address[0] == "hidden":
            found[address[1]][address[2]] = cells[address]
    return found


def kept_by(cells):
    """Return the STORE or MOVING STORE of which these are the CELLS."""
    tree, live, home = cells[("tree",)], cells[("live",)], cells[("home",)]
    rows = _rows_in(cells, "row", tables_of(schema_at(tree, home)))
    hiddens = _hiddens_in(cells)
    if ("goal",) not in cells:
        return (tree, live, home, rows, hiddens)
    goal = cells[("goal",)]
    schema, change, side = change_between(tree, goal, home)
    moved = tuple(sorted([address[1:] for address in cells if address[0] == "moved"]))
    laid = _rows_in(cells, "laid", touched_tables(schema, change, side))
    return (tree, live, home, goal, moved, rows, laid, hiddens)
