"""TRANSACTIONS run on a DATABASE, and the tables that they name."""

from everyversion.databases import broken, copied, with_row, without_part
from everyversion.errors import Refused
from everyversion.forms import fits_row, fits_sort
from everyversion.grammar import subparts
from everyversion.queries import asked, is_met, keys_where
from everyversion.ways import index_of, sort_of
from everyversion.worths import worth

# The least integer with more than 100 digits.
TOO_LONG = 10 ** 50 * 10 ** 50


def _is_settable(sort, number):
    """Whether a set may put a WORTH into a column of a SORT."""
    return fits_sort(sort, number) and (number is None or abs(number) < TOO_LONG)


def _add(schema, database, statement):
    table, key, row = statement[1:]
    if key in database[table]:
        raise Refused(0, ("there",))
    if not fits_row(schema, table, row):
        raise Refused(0, ("fit",))
    return with_row(database, table, key, row)


def _set(schema, database, statement):
    table, where, column, expression = statement[1:]
    keys = keys_where(schema, database, table, where)
    # All worths are told ahead of the first that is put in.
    worths = [worth(schema, database, table, key, expression) for key in keys]
    sort = sort_of(schema, table, column)
    if not all([_is_settable(sort, number) for number in worths]):
        raise Refused(0, ("fit",))
    at = index_of(schema, table, column)
    new = copied(database)
    for key, number in zip(keys, worths):
        row = database[table][key]
        new[table][key] = row[:at] + (number,) + row[at + 1:]
    return new


def _take(schema, database, statement):
    table, where = statement[1:]
    return without_part(database, {table: keys_where(schema, database, table, where)})


def _need(schema, database, statement):
    if not is_met(schema, database, statement):
        raise Refused(0, ("need",))
    return copied(database)


DOERS = {"add": _add, "set": _set, "take": _take, "need": _need}


def step_by(schema, database, statement):
    """Return what a single STATEMENT tells, None but for an ask, and the DATABASE behind it."""
    if statement[0] == "ask":
        return (asked(schema, database, statement[1]), copied(database))
    do_this = DOERS[statement[0]]
    return (None, do_this(schema, database, statement))


def _stepped(schema, database, index, statement):
    """Return what step_by does, the index being told if it is REFUSED."""
    try:
        return step_by(schema, database, statement)
    except Refused as error:
        raise Refused(index, error.reason) from None


def run(schema, database, transaction):
    """Return the tuple (answers, new DATABASE) of a TRANSACTION on a RIGHT DATABASE."""
    answers = []
    new = copied(database)
    for index, statement in enumerate(transaction):
        told, new = _stepped(schema, new, index, statement)
        if statement[0] == "ask":
            answers.append(told)
    found = broken(schema, new)
    if found != []:
        raise Refused(len(transaction), ("broken", found[0]))
    return (answers, new)


def would_run(schema, database, transaction):
    """Whether a TRANSACTION is not REFUSED on a RIGHT DATABASE."""
    try:
        run(schema, database, transaction)
    except Refused:
        return False
    return True


def written_tables(transaction):
    """Return the ascending tuple of the tables that adds, sets and takes name."""
    return tuple(sorted({statement[1] for statement in transaction if statement[0] in ("add", "set", "take")}))


def _tables_behind(schema, table, thing):
    """Return the list of the tables to which each via in an EXPRESSION or a CONDITION at a table leads."""
    todo = [(table, thing)]
    found = []
    while todo:
        place, part = todo.pop()
        if part[0] == "via":
            place = sort_of(schema, place, part[1])[1]
            found.append(place)
        todo.extend([(place, below) for below in subparts(part)])
    return found


def _things_of_query(query):
    """Return the list of the CONDITION and the EXPRESSIONS of a QUERY."""
    if query[0] == "rows":
        return [query[2], *query[3]]
    return list(query[2:])


def _things_of(statement):
    """Return the table of a STATEMENT, and the list of the CONDITIONS and EXPRESSIONS that stand in it."""
    if statement[0] in ("ask", "need"):
        return (statement[1][1], _things_of_query(statement[1]))
    if statement[0] == "add":
        return (statement[1], [])
    if statement[0] == "take":
        return (statement[1], [statement[2]])
    return (statement[1], [statement[2], statement[4]])


def tables_named(schema, transaction):
    """Return the ascending tuple of the tables that STATEMENTS name, and of those to which a via in them leads."""
    found = []
    for statement in transaction:
        table, things = _things_of(statement)
        found.append(table)
        for thing in things:
            found.extend(_tables_behind(schema, table, thing))
    return tuple(sorted(set(found)))
