"""What leads from one DATABASE to another, told as a TRANSACTION."""

from everyversion.databases import unlike_keys


def turned_into(schema, one, other):
    """Return the TRANSACTION that leads from one DATABASE to another of the same SCHEMA."""
    unlike = [(table, key) for table, keys in unlike_keys(one, other).items() for key in keys]
    takes = [("take", table, ("=", ("key",), ("num", key))) for table, key in unlike if key in one[table]]
    adds = [("add", table, key, other[table][key]) for table, key in unlike if key in other[table]]
    return tuple(takes + adds)


def put_behind(one, other):
    """Return the TRANSACTION with the STATEMENTS of one and, behind them, of the other."""
    return one + other
