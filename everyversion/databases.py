"""DATABASES: their rows, what keeps them from being RIGHT, and in what two of them are unlike."""

from everyversion.ways import columns_of, index_of, sort_of, table_of, tables_of
from everyversion.worths import holds_in


def _by_key(rows):
    """Return a new dict of the rows, keys ascending."""
    return {key: rows[key] for key in sorted(rows)}


def empty(schema):
    """Return the DATABASE without rows."""
    return {table: {} for table in tables_of(schema)}


def rows_many(database):
    """Return how many rows there are."""
    return sum([len(rows) for rows in database.values()])


def keys_of(database, table):
    """Return the ascending tuple of the keys of a table."""
    return tuple(sorted(database[table]))


def copied(database):
    """Return an equal DATABASE."""
    return {table: _by_key(database[table]) for table in sorted(database)}


def with_row(database, table, key, row):
    """Return the DATABASE in which the ROW stands under the KEY."""
    new = copied(database)
    new[table][key] = row
    # A key that is new stands last so far.
    new[table] = _by_key(new[table])
    return new


def without_row(database, table, key):
    """Return the DATABASE without the row under the KEY, if there is one."""
    new = copied(database)
    new[table].pop(key, None)
    return new


def item(schema, database, table, key, column):
    """Return what stands in a column of a row."""
    return database[table][key][index_of(schema, table, column)]


def with_item(schema, database, table, key, column, value):
    """Return the DATABASE in which a value stands in a column of a row."""
    at = index_of(schema, table, column)
    row = database[table][key]
    return with_row(database, table, key, row[:at] + (value,) + row[at + 1:])


def _broken_refs(schema, database, table):
    """Return the list of what keeps the refs and mays of a table from being RIGHT."""
    found = []
    sorts = [(column, sort_of(schema, table, column)) for column in columns_of(schema, table)]
    for key in sorted(database[table]):
        for (column, sort), value in zip(sorts, database[table][key]):
            if sort[0] in ("ref", "may") and value is not None and value not in database[sort[1]]:
                found.append(("ref", table, key, column))
    return found


def _broken_checks(schema, database, table):
    """Return the list of the rows of a table at which its check does not HOLD."""
    rows = database[table]
    columns = columns_of(schema, table)
    check = table_of(schema, table)[1]
    return [("check", table, key) for key in sorted(rows) if not holds_in(columns, key, rows[key], check)]


def _broken_keys(database, rule):
    """Return the list of the keys that break a rule."""
    word, one, other = rule
    if word == "apart":
        keys = sorted(set(database[one]) & set(database[other]))
    else:
        keys = sorted(set(database[one]) ^ set(database[other]))
    return [(word, one, other, key) for key in keys]


def broken(schema, database):
    """Return the list of all that keeps a DATABASE from being RIGHT."""
    refs = [told for table in tables_of(schema) for told in _broken_refs(schema, database, table)]
    checks = [told for table in tables_of(schema) for told in _broken_checks(schema, database, table)]
    return refs + checks + [told for rule in schema[1] for told in _broken_keys(database, rule)]


def is_right(schema, database):
    """Whether a DATABASE is RIGHT."""
    return broken(schema, database) == []


def _unlike_in(one, other):
    """Return the ascending tuple of the keys under which two dicts from KEYS to ROWS are unlike."""
    return tuple([key for key in sorted(set(one) | set(other)) if one.get(key) != other.get(key)])


def unlike_keys(one, other):
    """Return the dict from the tables in which two DATABASES are unlike to the keys there."""
    found = {table: _unlike_in(one[table], other[table]) for table in sorted(one)}
    return {table: keys for table, keys in found.items() if keys != ()}


def exchanged(one, other, table, key):
    """Return the DATABASE one, with what other has under the key."""
    if key in other[table]:
        return with_row(one, table, key, other[table][key])
    return without_row(one, table, key)


def part_of(database, keys):
    """Return the dict from some tables to the rows that they have under some keys."""
    found = {}
    for table in sorted(keys):
        rows = database[table]
        found[table] = {key: rows[key] for key in sorted(rows) if key in keys[table]}
    return found


def without_part(database, keys):
    """Return the DATABASE without the rows that some tables have under some keys."""
    left = {}
    for table in sorted(database):
        rows = database[table]
        gone = keys.get(table, ())
        left[table] = {key: rows[key] for key in sorted(rows) if key not in gone}
    return left
