"""Rows led from one side of a CHANGE to the other, and what is HIDDEN of them on the WIDE side."""

from everyversion.bothways import first_led_off
from everyversion.changes import child_by
from everyversion.refusals import back_change
from everyversion.ways import columns_of, index_of, led, refers, sort_of, table_of
from everyversion.worths import holds_in


def is_parent_wide(schema, change):
    """Whether the PARENT is the WIDE side of a CHANGE."""
    if change[0] == "change column":
        return first_led_off(change[4], change[5], sort_of(schema, change[1], change[2])) is not None
    return change[0] in ("drop column", "drop table")


class Step:
    """A CHANGE told from the narrow side to the WIDE one: it itself, or its contrary if the PARENT is the WIDE one."""

    def __init__(self, schema, change):
        child = child_by(schema, change)
        back = back_change(schema, change)
        self.is_parent_wide = is_parent_wide(schema, change)
        self.wide = schema if self.is_parent_wide else child
        self.narrow = child if self.is_parent_wide else schema
        self.change = back if self.is_parent_wide else change
        self.back = change if self.is_parent_wide else back


def _uncalled(change, told):
    return {change[2]: told[change[3]]}


def _undropped(change, told):
    return {change[2]: change[3]}


def _unsplit(change, told):
    _, _, column, many, high, low = change
    return {column: told[high] * many + told[low]}


def _unjoined(change, told):
    _, _, high, low, many, column = change
    return {high: told[column] // many, low: told[column] % many}


def _unchanged(change, told):
    return {change[2]: led(change[5], told[change[2]])}


# For a row of the CHILD, told as a dict from its columns, what those columns of the PARENT have that it has not.
COLUMNS_LED = {
    "call column": _uncalled,
    "drop column": _undropped,
    "split column": _unsplit,
    "join columns": _unjoined,
    "change column": _unchanged,
}


def _row_led(schema, change, table, key, told):
    if table != change[1]:
        return [(table, key, told)]
    lead = COLUMNS_LED[change[0]]
    more = lead(change, told)
    return [(table, key, {**told, **more})]


def _row_as_it_is(schema, change, table, key, told):
    return [(table, key, told)]


def _row_uncalled(schema, change, table, key, told):
    return [(change[1] if table == change[2] else table, key, told)]


def _row_moved_back(schema, change, table, key, told):
    _, moved, many = change
    leads = [column for column in told if refers(sort_of(schema, table, column), moved) and told[column] is not None]
    more = {column: told[column] - many for column in leads}
    return [(table, key - many if table == moved else key, {**told, **more})]


def _row_unsplit(schema, change, table, key, told):
    return [(change[1] if table in change[3:] else table, key, told)]


def _row_unjoined(schema, change, table, key, told):
    _, one, other, joined = change
    if table != joined:
        return [(table, key, told)]
    condition = table_of(schema, one)[1][2]
    is_one = holds_in(tuple(told), key, tuple(told.values()), condition)
    return [(one if is_one else other, key, told)]


def _row_unparted(schema, change, table, key, told):
    return [(change[1] if table == change[3] else table, key, told)]


def _row_parted_again(schema, change, table, key, told):
    if table != change[1]:
        return [(table, key, told)]
    return [(change[1], key, told), (change[2], key, told)]


# For a row of the CHILD the list of tuples (table, key, dict from columns) of what it tells of rows of the PARENT.
ROWS_LED = {
    "call table": _row_uncalled,
    "call column": _row_led,
    "add column": _row_as_it_is,
    "drop column": _row_led,
    "add table": _row_as_it_is,
    "drop table": _row_as_it_is,
    "split column": _row_led,
    "join columns": _row_led,
    "change column": _row_led,
    "move keys": _row_moved_back,
    "split table": _row_unsplit,
    "join tables": _row_unjoined,
    "part table": _row_unparted,
    "put together": _row_parted_again,
}


def _told_by(parent, change, child, rows):
    """Return the list of all that ROWS_LED tells of rows of the CHILD."""
    lead = ROWS_LED[change[0]]
    found = []
    for table in rows:
        columns = columns_of(child, table)
        for key, row in rows[table].items():
            found.extend(lead(parent, change, table, key, dict(zip(columns, row))))
    return found


def _led_back(parent, change, child, rows, tables):
    """Return what rows of the CHILD tell of some tables of the PARENT."""
    found = {table: {} for table in tables}
    for table, key, told in _told_by(parent, change, child, rows):
        if table in found:
            # Two rows may tell one: what was parted stands in both.
            found[table][key] = {**found[table].get(key, {}), **told}
    made = {}
    for table in sorted(found):
        columns = columns_of(parent, table)
        made[table] = {key: tuple([found[table][key][column] for column in columns]) for key in sorted(found[table])}
    return made


def rows_narrowed(step, wide, tables):
    """Return what rows of the WIDE side tell of some tables of the narrow one."""
    return _led_back(step.narrow, step.change, step.wide, wide, tables)


def _overlaid(columns, column, rows, hidden):
    """Return rows in a column of which what is HIDDEN stands, where there is such."""
    at = columns.index(column)
    return {key: row[:at] + (hidden.get(key, row[at]),) + row[at + 1:] for key, row in rows.items()}


def rows_full(step, narrow, hidden, tables):
    """Return what rows of the narrow side, and what is HIDDEN, tell of some tables of the WIDE one."""
    made = _led_back(step.wide, step.back, step.narrow, narrow, tables)
    word, table = step.change[:2]
    if word in ("add column", "change column"):
        made[table] = _overlaid(columns_of(step.wide, table), step.change[2], made[table], hidden)
    if word == "add table":
        made[table] = {key: hidden[key] for key in sorted(hidden)}
    return made


def _plain(change, value):
    """Return what a column has where nothing is HIDDEN, and now a value stands."""
    return change[4] if change[0] == "add column" else led(change[4], led(change[5], value))


def hidden_of(step, wide):
    """Return what is HIDDEN of rows of the WIDE side."""
    word, table = step.change[:2]
    if word == "add table":
        return {key: wide[table][key] for key in sorted(wide[table])}
    if word not in ("add column", "change column"):
        return {}
    at = index_of(step.wide, table, step.change[2])
    values = {key: wide[table][key][at] for key in sorted(wide[table])}
    return {key: value for key, value in values.items() if value != _plain(step.change, value)}
