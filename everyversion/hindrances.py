"""All that stands in the way of a CHANGE of a SCHEMA: what each word of a REASON tells."""

from everyversion.bothways import first_led_off, first_led_out
from everyversion.changes import PARENT_PLACES, falls_apart
from everyversion.forms import fits_sort, is_table
from everyversion.ways import columns_in, columns_of, has_column, refs_to, sort_of, table_of, tables_of

# The places of the columns in a CHANGE that are there ahead of it.
COLUMN_PLACES = {
    "call column": (2,), "drop column": (2,), "split column": (2,), "join columns": (2, 3), "change column": (2,),
}


def _columns_named(change):
    """Return the list of the columns that a CHANGE names and that have to be there."""
    if change[0] == "part table":
        return list(change[2])
    return [change[place] for place in COLUMN_PLACES.get(change[0], ())]


def _no_table(schema, change):
    named = [change[place] for place in PARENT_PLACES.get(change[0], (1,))]
    return [(table,) for table in named if table not in tables_of(schema)]


def _no_column(schema, change):
    return [(change[1], column) for column in _columns_named(change) if not has_column(schema, change[1], column)]


def is_missing(schema, change):
    """Whether a CHANGE names a table or a column that is not there."""
    return _no_table(schema, change) != [] or _no_column(schema, change) != []


def _clashes(there, gone, new):
    """Return the list of new names that stay beside one that is there, but for those gone, or that come twice."""
    stays = [name for name in there if name not in gone]
    return [(name,) for name in new if name in stays or new.count(name) > 1]


def _table_names(schema, change):
    """Return the names of tables that stand in the way of new ones."""
    there = tables_of(schema)
    if change[0] == "call table":
        return _clashes(there, change[1:2], [change[2]])
    if change[0] == "add table":
        return _clashes(there, (), [change[1]])
    if change[0] == "split table":
        return _clashes(there, change[1:2], list(change[3:]))
    if change[0] == "join tables":
        return _clashes(there, change[1:3], [change[3]])
    return _clashes(there, (), [change[3]])


def _column_names(schema, change):
    """Return the names of columns that stand in the way of new ones."""
    there = columns_of(schema, change[1])
    if change[0] == "call column":
        return _clashes(there, change[2:3], [change[3]])
    if change[0] == "add column":
        return _clashes(there, (), [change[2]])
    if change[0] == "split column":
        return _clashes(there, change[2:3], list(change[4:]))
    if change[0] == "put together":
        return _clashes(there, (), list(columns_of(schema, change[2])))
    twice = [(change[3],)] if change[2] == change[3] else []
    return _clashes(there, change[2:4], [change[5]]) + twice


def _name(schema, change):
    if change[0] in ("call table", "add table", "split table", "join tables", "part table"):
        return _table_names(schema, change)
    if change[0] in ("call column", "add column", "split column", "join columns", "put together"):
        return _column_names(schema, change)
    return []


def _is_number(sort):
    """Whether a SORT is an int or a below."""
    return sort[0] in ("int", "below")


def _added_sorts(schema, change):
    """Return the SORTS of a table to be added that refer to others than it and the tables that are there."""
    sorts = [sort for _, sort in change[2][0]]
    return [sort for sort in sorts if not _is_number(sort) and sort[1] not in tables_of(schema) + (change[1],)]


def _split_sorts(schema, change):
    """Return the SORT of a column that can't be split."""
    sort = sort_of(schema, change[1], change[2])
    if sort[0] == "below":
        return [sort] if sort[1] != sort[1] // change[3] * change[3] else []
    return [sort] if sort != ("int",) else []


def _joined_sorts(schema, change):
    """Return the SORTS of two columns that can't be joined."""
    table, high, low, many = change[1:5]
    above, beneath = sort_of(schema, table, high), sort_of(schema, table, low)
    is_wrong = above[1] * many > 1000 if above[0] == "below" else above != ("int",)
    return ([above] if is_wrong else []) + ([beneath] if beneath != ("below", many) else [])


def _wrong_sorts(schema, change):
    """Return the list of the SORTS that are not as a CHANGE wants them."""
    if change[0] == "add column":
        sort = change[3]
        return [] if _is_number(sort) or sort[0] == "may" and sort[1] in tables_of(schema) else [sort]
    if change[0] == "drop column":
        sort = sort_of(schema, change[1], change[2])
        return [sort] if sort[0] == "ref" else []
    if change[0] == "change column":
        return [sort for sort in (sort_of(schema, change[1], change[2]), change[3]) if not _is_number(sort)]
    if change[0] == "split column":
        return _split_sorts(schema, change)
    if change[0] == "join columns":
        return _joined_sorts(schema, change)
    return _added_sorts(schema, change) if change[0] == "add table" else []


def _sort(schema, change):
    return [(sort,) for sort in _wrong_sorts(schema, change)]


def _value(schema, change):
    if change[0] not in ("add column", "drop column"):
        return []
    sort = change[3] if change[0] == "add column" else sort_of(schema, change[1], change[2])
    value = change[-1]
    is_wanted = value is None if sort[0] == "may" else fits_sort(sort, value)
    return [] if is_wanted else [(value,)]


def _condition(schema, change):
    if change[0] != "split table" or is_table((table_of(schema, change[1])[0], change[2])):
        return []
    return [(change[1],)]


def is_led(schema, change):
    """Whether it is a change column whose SORTS are as it wants them."""
    return change[0] == "change column" and _wrong_sorts(schema, change) == []


def _out(schema, change):
    if not is_led(schema, change):
        return []
    x = first_led_out(change[4], sort_of(schema, change[1], change[2]), change[3])
    return [] if x is None else [(x,)]


def _out_back(schema, change):
    if not is_led(schema, change):
        return []
    y = first_led_out(change[5], change[3], sort_of(schema, change[1], change[2]))
    return [] if y is None else [(y,)]


def _led_off(schema, change):
    """Return the tuple of the first value of the old, and of the new SORT, that is led to another one, or None."""
    _, table, column, new, way, back = change
    return (first_led_off(way, back, sort_of(schema, table, column)), first_led_off(back, way, new))


def _ways(schema, change):
    if not is_led(schema, change):
        return []
    pair = _led_off(schema, change)
    return [] if None in pair else [pair]


def _columns(schema, change):
    if change[0] == "join tables" and table_of(schema, change[1])[0] != table_of(schema, change[2])[0]:
        return [change[1:3]]
    if change[0] == "put together" and columns_of(schema, change[2]) == ():
        return [change[1:3]]
    return []


def _checks(schema, change):
    if change[0] != "join tables":
        return []
    one, other = table_of(schema, change[1])[1], table_of(schema, change[2])[1]
    is_wanted = one[0] == "and" and other == ("and", one[1], ("not", one[2]))
    return [] if is_wanted else [change[1:3]]


def _rule_wanted(change):
    """Return the rule that a CHANGE wants, None if it wants none."""
    if change[0] not in ("join tables", "put together"):
        return None
    one, other = sorted(change[1:3])
    return ("apart" if change[0] == "join tables" else "same", one, other)


def _not_apart(schema, change):
    if change[0] != "join tables" or _rule_wanted(change) in schema[1]:
        return []
    return [change[1:3]]


def _not_same(schema, change):
    if change[0] != "put together" or _rule_wanted(change) in schema[1]:
        return []
    return [change[1:3]]


def _names_may(told):
    """Whether the check of a TABLE names a may."""
    return any([dict(told[0])[column][0] == "may" for column in columns_in(told[1])])


def _names_both(check, columns):
    """Whether a check names some of these columns, and others, and does not fall into one for each."""
    named = columns_in(check)
    goes = [column for column in named if column in columns]
    return goes != [] and len(goes) < len(named) and not falls_apart(check, columns)


def _is_checked(schema, change):
    """Whether the check of the table stands in the way of a CHANGE."""
    if change[0] == "add table":
        return _names_may(change[2])
    if change[0] == "drop table":
        return _names_may(table_of(schema, change[1]))
    if change[0] == "part table":
        return _names_both(table_of(schema, change[1])[1], change[2])
    if change[0] == "drop column":
        return change[2] in columns_in(table_of(schema, change[1])[1])
    if not is_led(schema, change) or change[2] not in columns_in(table_of(schema, change[1])[1]):
        return False
    return _led_off(schema, change) != (None, None)


def _check(schema, change):
    return [(change[1],)] if _is_checked(schema, change) else []


def _tables_replaced(change):
    """Return the tuple of the tables whose rows stand in others then, or nowhere."""
    if change[0] in ("split table", "drop table"):
        return (change[1],)
    if change[0] == "join tables":
        return change[1:3]
    return (change[2],) if change[0] == "put together" else ()


def _referred(schema, change):
    found = [pair for table in sorted(set(_tables_replaced(change))) for pair in refs_to(schema, table)]
    return sorted([pair for pair in found if change[0] != "drop table" or pair[0] != change[1]])


def _rule(schema, change):
    gone = (change[1],) if change[0] == "move keys" else _tables_replaced(change)
    wanted = _rule_wanted(change)
    return [rule for rule in schema[1] if rule != wanted and (rule[1] in gone or rule[2] in gone)]


# What each word of a REASON tells: all things that are so, of out, out back and ways the first ones alone.
REASONS = {
    "no table": _no_table,
    "no column": _no_column,
    "name": _name,
    "sort": _sort,
    "value": _value,
    "condition": _condition,
    "out": _out,
    "out back": _out_back,
    "ways": _ways,
    "columns": _columns,
    "checks": _checks,
    "not apart": _not_apart,
    "not same": _not_same,
    "check": _check,
    "referred": _referred,
    "rule": _rule,
}
