"""What QUERIES tell of a DATABASE, and whether a need is met."""

from everyversion.worths import holds, worth


def keys_where(schema, database, table, where):
    """Return the list of the keys of a table, ascending, at whose rows a CONDITION HOLDS."""
    return [key for key in sorted(database[table]) if holds(schema, database, table, key, where)]


def _worths_at(schema, database, table, key, expressions):
    """Return the tuple of the WORTHS of several EXPRESSIONS at a row."""
    return tuple([worth(schema, database, table, key, expression) for expression in expressions])


def asked(schema, database, query):
    """Return what a QUERY tells: a list of tuples (key, worths) for rows, an integer for a count or a total."""
    table = query[1]
    keys = keys_where(schema, database, table, query[2])
    if query[0] == "count":
        return len(keys)
    if query[0] == "rows":
        return [(key, _worths_at(schema, database, table, key, query[3])) for key in keys]
    worths = [worth(schema, database, table, key, query[3]) for key in keys]
    return sum([number for number in worths if number is not None])


def is_met(schema, database, statement):
    """Whether what the query of a need tells is not below its least and not above its most."""
    number = asked(schema, database, statement[1])
    least, most = statement[2:]
    return (least is None or least <= number) and (most is None or number <= most)
