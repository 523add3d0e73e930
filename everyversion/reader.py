"""Texts read: a SCHEMA, a TRANSACTION, the edges of a TREE, a DATABASE."""

from everyversion.changes import CHANGES, is_change
from everyversion.errors import Wrong
from everyversion.forms import fits_row, is_schema, is_sort, is_statement, is_table
from everyversion.terms import Line, read_condition, read_expression, read_expressions, read_integer, read_kinds
from everyversion.terms import read_name, read_sort, read_value, read_values
from everyversion.ways import tables_of
from everyversion.words import lines_of


class Draft:
    """A SCHEMA, so far as its lines are read."""

    def __init__(self, told):
        # The names of all tables that some line tells: a SORT or a rule may name one whose line stands behind.
        self.told = told
        self.tables = []
        self.rules = []
        # Whether a column or a check of the last table may come.
        self.amid = False


def _draft_table(draft, line, word):
    name = read_name(line)
    line.want(draft.rules == [] and (draft.tables == [] or draft.tables[-1][0] < name))
    draft.tables.append((name, ((), ("true",))))
    draft.amid = True


def _draft_column(draft, line, word):
    line.want(draft.amid)
    name = read_name(line)
    sort = read_sort(line)
    table, (columns, check) = draft.tables[-1]
    line.want(columns == () or columns[-1][0] < name)
    line.want(is_sort(sort) and (sort[0] in ("int", "below") or sort[1] in draft.told))
    draft.tables[-1] = (table, (columns + ((name, sort),), check))


def _draft_check(draft, line, word):
    line.want(draft.amid)
    table, (columns, _) = draft.tables[-1]
    told = (columns, read_condition(line))
    line.want(is_table(told))
    draft.tables[-1] = (table, told)
    draft.amid = False


def _draft_rule(draft, line, word):
    rule = (word, read_name(line), read_name(line))
    line.want(rule[1] < rule[2] and rule[1] in draft.told and rule[2] in draft.told)
    line.want(draft.rules == [] or draft.rules[-1] < rule)
    draft.rules.append(rule)
    draft.amid = False


DRAFTERS = {
    "table": _draft_table,
    "column": _draft_column,
    "check": _draft_check,
    "apart": _draft_rule,
    "same": _draft_rule,
}


def read_schema(text):
    """[R] Return the SCHEMA that a text tells."""
    if not isinstance(text, str):
        raise Wrong(0)
    lines = lines_of(text)
    draft = Draft([words[1] for at, words in lines if len(words) == 2 and words[0] == "table"])
    for at, words in lines:
        line = Line(at, words)
        word = line.take()
        line.want(word in DRAFTERS)
        read = DRAFTERS[word]
        read(draft, line, word)
        line.want(not line.has_more())
    return (tuple(draft.tables), tuple(draft.rules))


def _read_query(line):
    """Return what comes next and has the words of a QUERY."""
    word = line.take()
    line.want(word in ("rows", "count", "total"))
    table = read_name(line)
    where = read_condition(line)
    if word == "count":
        return (word, table, where)
    if word == "total":
        return (word, table, where, read_expression(line))
    return (word, table, where, read_expressions(line))


def _read_ask(line):
    return ("ask", _read_query(line))


def _read_add(line):
    table = read_name(line)
    key = read_integer(line)
    return ("add", table, key, read_values(line))


def _read_set(line):
    table = read_name(line)
    where = read_condition(line)
    column = read_name(line)
    return ("set", table, where, column, read_expression(line))


def _read_take(line):
    table = read_name(line)
    return ("take", table, read_condition(line))


def _read_need(line):
    query = _read_query(line)
    least = read_value(line)
    return ("need", query, least, read_value(line))


STATEMENTS = {"ask": _read_ask, "add": _read_add, "set": _read_set, "take": _read_take, "need": _read_need}


def read_statement(schema, line):
    """Return the STATEMENT that all words of a line tell."""
    word = line.take()
    line.want(word in STATEMENTS)
    read = STATEMENTS[word]
    statement = read(line)
    line.want(not line.has_more() and is_statement(schema, statement))
    return statement


def _want_schema_and_text(schema, text):
    """Raise Wrong for the first that is none."""
    if not is_schema(schema):
        raise Wrong(0)
    if not isinstance(text, str):
        raise Wrong(1)


def read_transaction(schema, text):
    """[R] Return the TRANSACTION of a SCHEMA that a text tells."""
    _want_schema_and_text(schema, text)
    return tuple([read_statement(schema, Line(at, words)) for at, words in lines_of(text)])


def read_change(line):
    """Return the CHANGE that all words left in a line tell."""
    one = line.take()
    word = one + " " + line.take()
    line.want(word in CHANGES)
    if word == "part table":
        # In a text the columns stand last, as nothing tells where they end.
        table, other, columns = read_kinds(line, ("name", "name", "names"))
        change = (word, table, columns, other)
    else:
        change = (word, *read_kinds(line, CHANGES[word]))
    line.want(not line.has_more() and is_change(change))
    return change


def read_edges(text):
    """[R] Return the edges of a TREE that a text tells, by their form alone."""
    if not isinstance(text, str):
        raise Wrong(0)
    edges = []
    for at, words in lines_of(text):
        line = Line(at, words)
        line.want(line.take() == "from")
        version = read_integer(line)
        line.want(0 <= version <= len(edges))
        edges.append((version, read_change(line)))
    return tuple(edges)


def read_database(schema, text):
    """[R] Return the DATABASE of a SCHEMA that a text tells, RIGHT or not."""
    _want_schema_and_text(schema, text)
    found = {table: {} for table in tables_of(schema)}
    for at, words in lines_of(text):
        line = Line(at, words)
        line.want(line.take() == "row")
        table = read_name(line)
        key = read_integer(line)
        row = read_values(line)
        line.want(table in found and key not in found[table] and fits_row(schema, table, row))
        found[table][key] = row
    return {table: {key: rows[key] for key in sorted(rows)} for table, rows in found.items()}
