"""The WIDE and the narrow side of a CHANGE, and what the DATABASES of each tell of the other."""

from everyversion.leading import hidden_of, is_parent_wide, rows_full, rows_narrowed, side_schema
from everyversion.ways import tables_of


def wide_side(schema, change):
    """Return "parent" or "child", as the WIDE side is."""
    return "parent" if is_parent_wide(schema, change) else "child"


def _narrow_side(schema, change):
    return "child" if is_parent_wide(schema, change) else "parent"


def narrowed(schema, change, wide):
    """Return the DATABASE of the narrow side that a WIDE one tells."""
    tables = tables_of(side_schema(schema, change, _narrow_side(schema, change)))
    return rows_narrowed(schema, change, wide, tables)


def hidden(schema, change, wide):
    """Return what is HIDDEN of a WIDE DATABASE."""
    return hidden_of(schema, change, wide)


def full(schema, change, narrow, hidden):
    """Return the WIDE DATABASE that a narrow one and what is HIDDEN tell."""
    tables = tables_of(side_schema(schema, change, wide_side(schema, change)))
    return rows_full(schema, change, narrow, hidden, tables)


def agree(schema, change, parent, child):
    """Whether two DATABASES AGREE: whether the WIDE one NARROWED is the narrow one."""
    if is_parent_wide(schema, change):
        return narrowed(schema, change, parent) == child
    return narrowed(schema, change, child) == parent
