"""What is read from texts, shown as such texts again."""

from everyversion.changes import CHANGES
from everyversion.grammar import subparts


def _value_word(value):
    """Return the word of an integer or None."""
    return "none" if value is None else str(value)


def _value_words(values):
    """Return the words of several integers or None."""
    return [_value_word(value) for value in values]


def _one_name(name):
    return [name]


def _one_value(value):
    return [_value_word(value)]


def _sort_words(sort):
    return [str(part) for part in sort]


def _way_words(way):
    if way[0] == "list":
        return ["list", *_value_words(way[1]), "end"]
    return [str(part) for part in way]


def _head_words(part):
    """Return the words of an EXPRESSION or a CONDITION ahead of those that stand in it."""
    if part[0] in ("num", "col"):
        return [str(part[1])]
    if part[0] == "via":
        return ["via", part[1]]
    if part[0] == "by":
        return ["by", *_way_words(part[1])]
    return [part[0]]


def _formed_words(thing):
    """Return the words of an EXPRESSION or a CONDITION."""
    todo = [thing]
    words = []
    while todo:
        part = todo.pop()
        words.extend(_head_words(part))
        todo.extend(subparts(part)[::-1])
    return words


def _column_words(column):
    return ["column", column[0], *_sort_words(column[1])]


def _table_words(told):
    """Return the words of a TABLE on one line."""
    columns = [word for column in told[0] for word in _column_words(column)]
    return [*columns, "check", *_formed_words(told[1])]


def _query_words(query):
    words = [query[0], query[1], *_formed_words(query[2])]
    if query[0] == "total":
        return words + _formed_words(query[3])
    if query[0] == "rows":
        return words + [word for expression in query[3] for word in _formed_words(expression)]
    return words


def _statement_words(statement):
    word = statement[0]
    if word == "ask":
        return [word, *_query_words(statement[1])]
    if word == "need":
        return [word, *_query_words(statement[1]), *_value_words(statement[2:])]
    if word == "add":
        return [word, statement[1], str(statement[2]), *_value_words(statement[3])]
    words = [word, statement[1], *_formed_words(statement[2])]
    if word == "set":
        return [*words, statement[3], *_formed_words(statement[4])]
    return words


SHOWERS = {
    "name": _one_name,
    "integer": _one_value,
    "many": _one_value,
    "value": _one_value,
    "sort": _sort_words,
    "way": _way_words,
    "condition": _formed_words,
    "table": _table_words,
}


def _kind_words(kind, thing):
    """Return the words of what stands in a CHANGE."""
    words_of = SHOWERS[kind]
    return words_of(thing)


def _change_words(change):
    if change[0] == "part table":
        # The columns stand last, as nothing tells where they end.
        return [change[0], change[1], change[3], *change[2]]
    words = [change[0]]
    for kind, thing in zip(CHANGES[change[0]], change[1:]):
        words.extend(_kind_words(kind, thing))
    return words


def _row_words(table, key, row):
    return ["row", table, str(key), *_value_words(row)]


def _table_lines(table, told):
    """Return the lines of a table of a SCHEMA, as lists of words."""
    lines = [["table", table]] + [_column_words(column) for column in told[0]]
    if told[1] != ("true",):
        lines.append(["check", *_formed_words(told[1])])
    return lines


def _text(lines):
    """Return the text of lines, which are lists of words."""
    return "\n".join([" ".join(words) for words in lines])


def show_schema(schema):
    """Return the text of a SCHEMA."""
    lines = [words for table, told in schema[0] for words in _table_lines(table, told)]
    return _text(lines + list(schema[1]))


def show_transaction(transaction):
    """Return the text of a TRANSACTION."""
    return _text([_statement_words(statement) for statement in transaction])


def show_edges(edges):
    """Return the text of the edges of a TREE."""
    return _text([["from", str(version), *_change_words(change)] for version, change in edges])


def show_database(schema, database):
    """Return the text of a DATABASE of a SCHEMA."""
    names = [pair[0] for pair in schema[0]]
    return _text([_row_words(name, key, database[name][key]) for name in names for key in sorted(database[name])])


def show_condition(condition):
    """Return the words of a CONDITION."""
    return " ".join(_formed_words(condition))


def show_expression(expression):
    """Return the words of an EXPRESSION."""
    return " ".join(_formed_words(expression))


def show_change(change):
    """Return the words of a CHANGE."""
    return " ".join(_change_words(change))


def show_answer(answer):
    """Return the words of an ANSWER."""
    if isinstance(answer, int):
        return str(answer)
    return " | ".join([" ".join([f"{key}:", *_value_words(worths)]) for key, worths in answer])
