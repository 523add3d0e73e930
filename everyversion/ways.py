"""Schemas looked into; where WAYS lead; what stands in EXPRESSIONS and CONDITIONS."""

from everyversion.grammar import parts_in, subparts


def tables_of(schema):
    """Return the tuple of the names of the tables."""
    return tuple([pair[0] for pair in schema[0]])


def table_of(schema, table):
    """Return the TABLE of this name."""
    return dict(schema[0])[table]


def columns_of(schema, table):
    """Return the tuple of the names of a table's columns."""
    return tuple([column[0] for column in table_of(schema, table)[0]])


def has_column(schema, table, column):
    """Whether there is a table of this name, with a column of that one."""
    return table in tables_of(schema) and column in columns_of(schema, table)


def sort_of(schema, table, column):
    """Return the SORT of a column."""
    return dict(table_of(schema, table)[0])[column]


def index_of(schema, table, column):
    """Return the place of a column in the ROWS of its table."""
    return columns_of(schema, table).index(column)


def refers(sort, table):
    """Whether a SORT is a ref or a may of the table."""
    return sort[0] in ("ref", "may") and sort[1] == table


def refs_to(schema, table):
    """Return the ascending tuple of the (table, column) that refer to the table."""
    return tuple([(name, column) for name, told in schema[0] for column, sort in told[0] if refers(sort, table)])


def without_table(schema, table):
    """Return the schema without the TABLE of this name."""
    return (tuple([pair for pair in schema[0] if pair[0] != table]), schema[1])


def with_table(schema, table, told):
    """Return the schema with a TABLE under a name, in the place of that which has it."""
    pairs = list(without_table(schema, table)[0]) + [(table, told)]
    return (tuple(sorted(pairs, key=lambda pair: pair[0])), schema[1])


def led(way, x):
    """Return the integer, or None, to which a WAY leads an integer."""
    if way[0] == "plus":
        return x + way[1]
    if way[0] == "turned":
        return -x
    if way[0] == "times":
        return x * way[1]
    if way[0] == "over":
        return x // way[1]
    if way[0] == "rest":
        return x % way[1]
    return way[1][x] if 0 <= x < len(way[1]) else None


def columns_in(thing):
    """Return the ascending tuple of the columns that stand in it, but for those within a via."""
    todo = [thing]
    found = []
    while todo:
        part = todo.pop()
        if part[0] in ("col", "via"):
            found.append(part[1])
        if part[0] != "via":
            todo.extend(subparts(part))
    return tuple(sorted(set(found)))


def parts_many(thing):
    """Return how many EXPRESSIONS and CONDITIONS stand in it, itself being one."""
    return len(parts_in(thing))


def _put_part(part, below, columns, key):
    """Return what becomes of one part, below being what has become of those that stand in it."""
    if part[0] == "key":
        return key
    if part[0] == "col":
        return columns.get(part[1], part)
    return part[:len(part) - len(below)] + tuple(below)


def put_in(thing, columns, key):
    """Return what it is with EXPRESSIONS in the place of columns and of the key."""
    made = []
    for part in parts_in(thing):
        first = len(made) - len(subparts(part))
        made[first:] = [_put_part(part, made[first:], columns, key)]
    return made[0]


def both(one, other):
    """Return the CONDITION that both of two hold, the other one alone if one is always so."""
    if one == ("true",):
        return other
    if other == ("true",):
        return one
    return ("and", one, other)
