"""The WIDE and the narrow side of a CHANGE, and what the DATABASES of each tell of the other."""

from everyversion.leading import Step, hidden_of, is_parent_wide, rows_full, rows_narrowed
from everyversion.ways import tables_of


def wide_side(schema, change):
    """Return "parent" or "child", as the WIDE side is."""
    return "parent" if is_parent_wide(schema, change) else "child"


def told_narrow(step, wide):
    """Return the narrow DATABASE that a WIDE one tells."""
    return rows_narrowed(step, wide, tables_of(step.narrow))


def told_wide(step, narrow, beside):
    """Return the WIDE DATABASE that a narrow one and what is HIDDEN beside it tell."""
    return rows_full(step, narrow, beside, tables_of(step.wide))


def narrowed(schema, change, wide):
    """Return the DATABASE of the narrow side that a WIDE one tells."""
    return told_narrow(Step(schema, change), wide)


def hidden(schema, change, wide):
    """Return what is HIDDEN of a WIDE DATABASE."""
    return hidden_of(Step(schema, change), wide)


def full(schema, change, narrow, hidden):
    """Return the WIDE DATABASE that a narrow one and what is HIDDEN tell."""
    return told_wide(Step(schema, change), narrow, hidden)


def agree(schema, change, parent, child):
    """Whether two DATABASES AGREE: whether the WIDE one NARROWED is the narrow one."""
    step = Step(schema, change)
    if step.is_parent_wide:
        return told_narrow(step, parent) == child
    return told_narrow(step, child) == parent
