"""The CHANGES: their forms, the tables that they name, and the CHILD to which each leads."""

from everyversion.forms import is_kind
from everyversion.ways import both, columns_in, put_in, refers, sort_of, table_of, with_table, without_table

KEY = ("key",)
ALWAYS = ("true",)

# What stands behind the first item of each CHANGE.
CHANGES = {
    "call table": ("name", "name"),
    "call column": ("name", "name", "name"),
    "add column": ("name", "name", "sort", "value"),
    "drop column": ("name", "name", "value"),
    "add table": ("name", "table"),
    "drop table": ("name",),
    "split column": ("name", "name", "many", "name", "name"),
    "join columns": ("name", "name", "name", "many", "name"),
    "change column": ("name", "name", "sort", "way", "way"),
    "move keys": ("name", "integer"),
    "split table": ("name", "condition", "name", "name"),
    "join tables": ("name", "name", "name"),
    "part table": ("name", "names", "name"),
    "put together": ("name", "name"),
}

# The places of the tables of each side in a CHANGE, where they are others than (1,).
PARENT_PLACES = {"add table": (), "join tables": (1, 2), "put together": (1, 2)}
CHILD_PLACES = {"call table": (2,), "drop table": (), "split table": (3, 4), "join tables": (3,), "part table": (1, 3)}


def is_change(thing):
    """Whether any value is a CHANGE by its form."""
    if not isinstance(thing, tuple) or len(thing) == 0 or not isinstance(thing[0], str) or thing[0] not in CHANGES:
        return False
    kinds = CHANGES[thing[0]]
    return len(thing) == len(kinds) + 1 and all([is_kind(kind, part) for kind, part in zip(kinds, thing[1:])])


def named_tables(change):
    """Return the ascending tuple of the tables of the PARENT that a CHANGE names."""
    return tuple(sorted({change[place] for place in PARENT_PLACES.get(change[0], (1,))}))


def named_below(change):
    """Return the ascending tuple of the tables of the CHILD that a CHANGE names."""
    return tuple(sorted({change[place] for place in CHILD_PLACES.get(change[0], (1,))}))


def _by_name(columns):
    """Return the tuple of columns, names ascending."""
    return tuple(sorted(columns, key=lambda column: column[0]))


def _rule(word, one, other):
    """Return the rule between two tables, told in any order."""
    names = sorted([one, other])
    return (word, names[0], names[1])


def _with_rule(schema, rule):
    """Return the schema with a rule more."""
    return (schema[0], tuple(sorted(list(schema[1]) + [rule])))


def _without_rule(schema, rule):
    """Return the schema without a rule."""
    return (schema[0], tuple([other for other in schema[1] if other != rule]))


def _replaced(schema, table, gone, new, told):
    """Return the schema with new columns of a table for those gone, which the check has as the dict told says."""
    columns, check = table_of(schema, table)
    kept = [column for column in columns if column[0] not in gone]
    return with_table(schema, table, (_by_name(kept + new), put_in(check, told, KEY)))


def _table_called(told, table, name):
    """Return a TABLE whose SORTS refer to a name where they referred to a table."""
    columns = [(column, (sort[0], name) if refers(sort, table) else sort) for column, sort in told[0]]
    return (tuple(columns), told[1])


def _rule_called(rule, table, name):
    """Return a rule of a name where it was one of a table."""
    called = [name if other == table else other for other in rule[1:]]
    return _rule(rule[0], called[0], called[1])


def _call_table(schema, change):
    table, name = change[1:]
    tables = tuple([(other, _table_called(told, table, name)) for other, told in schema[0]])
    rules = tuple(sorted([_rule_called(rule, table, name) for rule in schema[1]]))
    return with_table(without_table((tables, rules), table), name, dict(tables)[table])


def _call_column(schema, change):
    table, column, name = change[1:]
    new = [(name, sort_of(schema, table, column))]
    return _replaced(schema, table, (column,), new, {column: ("col", name)})


def _add_column(schema, change):
    return _replaced(schema, change[1], (), [(change[2], change[3])], {})


def _drop_column(schema, change):
    return _replaced(schema, change[1], (change[2],), [], {})


def _add_table(schema, change):
    return with_table(schema, change[1], change[2])


def _drop_table(schema, change):
    return without_table(schema, change[1])


def _split_column(schema, change):
    table, column, many, high, low = change[1:]
    sort = sort_of(schema, table, column)
    above = ("below", sort[1] // many) if sort[0] == "below" else sort
    told = ("+", ("*", ("col", high), ("num", many)), ("col", low))
    return _replaced(schema, table, (column,), [(high, above), (low, ("below", many))], {column: told})


def _join_columns(schema, change):
    table, high, low, many, column = change[1:]
    above = sort_of(schema, table, high)
    sort = ("below", above[1] * many) if above[0] == "below" else above
    told = {high: ("by", ("over", many), ("col", column)), low: ("by", ("rest", many), ("col", column))}
    return _replaced(schema, table, (high, low), [(column, sort)], told)


def _change_column(schema, change):
    # A check that names the column is refused unless both ways lead back, so it may be put in always.
    table, column, sort, _, back = change[1:]
    return _replaced(schema, table, (column,), [(column, sort)], {column: ("by", back, ("col", column))})


def _move_keys(schema, change):
    table, many = change[1:]
    back = ("plus", -many)
    moved = schema
    for name, (columns, check) in schema[0]:
        told = {column: ("by", back, ("col", column)) for column, sort in columns if refers(sort, table)}
        key = ("by", back, KEY) if name == table else KEY
        moved = with_table(moved, name, (columns, put_in(check, told, key)))
    return moved


def _split_table(schema, change):
    table, condition, one, other = change[1:]
    columns, check = table_of(schema, table)
    rest = without_table(schema, table)
    with_one = with_table(rest, one, (columns, ("and", check, condition)))
    with_both = with_table(with_one, other, (columns, ("and", check, ("not", condition))))
    return _with_rule(with_both, _rule("apart", one, other))


def _join_tables(schema, change):
    one, other, table = change[1:]
    columns, check = table_of(schema, one)
    rest = _without_rule(without_table(without_table(schema, one), other), _rule("apart", one, other))
    return with_table(rest, table, (columns, check[1]))


def _names_just(check, columns):
    """Whether a check names a column, and none but these."""
    named = columns_in(check)
    return named != () and all([column in columns for column in named])


def _names_none(check, columns):
    """Whether a check names none of these columns."""
    return not any([column in columns for column in columns_in(check)])


def falls_apart(check, columns):
    """Whether a check is an "and" of one that names none of some columns, and of one that names just some of them."""
    return check[0] == "and" and _names_none(check[1], columns) and _names_just(check[2], columns)


def _parted_check(check, columns):
    """Return the check that stays, and the one that goes with some columns."""
    if falls_apart(check, columns):
        return (check[1], check[2])
    if _names_just(check, columns):
        return (ALWAYS, check)
    return (check, ALWAYS)


def _part_table(schema, change):
    table, names, other = change[1:]
    columns, check = table_of(schema, table)
    stays, goes = _parted_check(check, names)
    kept = tuple([column for column in columns if column[0] not in names])
    parted = tuple([column for column in columns if column[0] in names])
    with_both = with_table(with_table(schema, table, (kept, stays)), other, (parted, goes))
    return _with_rule(with_both, _rule("same", table, other))


def _put_together(schema, change):
    table, other = change[1:]
    columns, check = table_of(schema, table)
    more, check_more = table_of(schema, other)
    rest = _without_rule(without_table(schema, other), _rule("same", table, other))
    return with_table(rest, table, (_by_name(columns + more), both(check, check_more)))


CHILDREN = {
    "call table": _call_table,
    "call column": _call_column,
    "add column": _add_column,
    "drop column": _drop_column,
    "add table": _add_table,
    "drop table": _drop_table,
    "split column": _split_column,
    "join columns": _join_columns,
    "change column": _change_column,
    "move keys": _move_keys,
    "split table": _split_table,
    "join tables": _join_tables,
    "part table": _part_table,
    "put together": _put_together,
}


def child_by(schema, change):
    """Return the CHILD of a SCHEMA by a CHANGE that is not REFUSED."""
    lead = CHILDREN[change[0]]
    return lead(schema, change)
