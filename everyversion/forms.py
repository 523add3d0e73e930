"""Whether any value has one of the forms that all the others are built of."""

from everyversion.grammar import CONDITIONS, DIGITS, EXPRESSIONS, LETTERS, WORDS, parts_in, subparts


def is_integer(thing):
    """Whether thing is an integer; True and False are none."""
    return isinstance(thing, int) and not isinstance(thing, bool)


def is_value(thing):
    """Whether thing may stand in a ROW: an integer or None."""
    return thing is None or is_integer(thing)


def is_many(thing):
    """Whether thing is an integer from 1 to 1000."""
    return is_integer(thing) and 1 <= thing <= 1000


def is_tuple_of(thing, many):
    """Whether thing is a tuple of so many items."""
    return isinstance(thing, tuple) and len(thing) == many


def ascends(items):
    """Whether each item, of a list or a tuple, is less than the one behind it."""
    return all([one < other for one, other in zip(items, items[1:])])


def is_name(thing):
    """Whether thing is a NAME."""
    if not isinstance(thing, str) or not 1 <= len(thing) <= 12 or thing in WORDS:
        return False
    return thing[0] in LETTERS and all([sign in LETTERS + DIGITS for sign in thing])


def is_sort(thing):
    """Whether thing is a SORT, whatever table it names."""
    if is_tuple_of(thing, 1):
        return thing[0] == "int"
    if not is_tuple_of(thing, 2):
        return False
    if thing[0] == "below":
        return is_many(thing[1])
    return thing[0] in ("ref", "may") and is_name(thing[1])


def is_way(thing):
    """Whether thing is a WAY."""
    if is_tuple_of(thing, 1):
        return thing[0] == "turned"
    if not is_tuple_of(thing, 2):
        return False
    if thing[0] == "plus":
        return is_integer(thing[1])
    if thing[0] == "list":
        return isinstance(thing[1], tuple) and is_many(len(thing[1])) and all([is_integer(x) for x in thing[1]])
    return thing[0] in ("times", "over", "rest") and is_many(thing[1])


LEAVES = {"integer": is_integer, "name": is_name, "way": is_way}


def _kinds_behind(kind, thing):
    """Return what stands behind the first item of thing, None if it can't be an EXPRESSION or a CONDITION."""
    if not isinstance(thing, tuple) or len(thing) == 0 or not isinstance(thing[0], str):
        return None
    kinds = EXPRESSIONS.get(thing[0]) if kind == "expression" else CONDITIONS.get(thing[0])
    if kinds is None or len(thing) != len(kinds) + 1:
        return None
    return kinds


def _is_formed(kind, thing):
    """Whether thing is an "expression" or a "condition"."""
    todo = [(kind, thing)]
    while todo:
        wanted, part = todo.pop()
        if wanted in LEAVES:
            is_leaf = LEAVES[wanted]
            if not is_leaf(part):
                return False
        else:
            kinds = _kinds_behind(wanted, part)
            if kinds is None:
                return False
            todo.extend(list(zip(kinds, part[1:])))
    return True


def is_expression(thing):
    """Whether thing is an EXPRESSION, whatever columns it names."""
    return _is_formed("expression", thing)


def is_condition(thing):
    """Whether thing is a CONDITION, whatever columns it names."""
    return _is_formed("condition", thing)


def _are_named(thing, is_told):
    """Whether thing is a tuple of tuples (NAME, what is_told takes), names ascending."""
    if not isinstance(thing, tuple):
        return False
    if not all([is_tuple_of(pair, 2) and is_name(pair[0]) and is_told(pair[1]) for pair in thing]):
        return False
    return ascends([pair[0] for pair in thing])


def _is_check_part(part, names):
    """Whether an EXPRESSION or a CONDITION may stand in the check of a table with columns of these names."""
    return part[0] != "via" and (part[0] != "col" or part[1] in names)


def is_table(thing):
    """Whether thing is a TABLE, whatever tables its SORTS name."""
    if not is_tuple_of(thing, 2) or not _are_named(thing[0], is_sort) or not is_condition(thing[1]):
        return False
    names = [column[0] for column in thing[0]]
    return all([_is_check_part(part, names) for part in parts_in(thing[1])])


def _are_rules(thing, names):
    """Whether thing is an ascending tuple of rules between tables of these names."""
    if not isinstance(thing, tuple) or not all([is_tuple_of(rule, 3) for rule in thing]):
        return False
    if not all([rule[0] in ("apart", "same") and rule[1] in names and rule[2] in names for rule in thing]):
        return False
    return all([rule[1] < rule[2] for rule in thing]) and ascends(thing)


def are_names(thing):
    """Whether thing is an ascending tuple of at least one NAME."""
    return isinstance(thing, tuple) and len(thing) > 0 and all([is_name(name) for name in thing]) and ascends(thing)


KINDS = {
    "name": is_name,
    "names": are_names,
    "integer": is_integer,
    "many": is_many,
    "value": is_value,
    "sort": is_sort,
    "way": is_way,
    "condition": is_condition,
    "table": is_table,
}


def is_kind(kind, thing):
    """Whether thing is what a word of KINDS says."""
    is_this = KINDS[kind]
    return is_this(thing)


def is_schema(thing):
    """Whether thing is a SCHEMA."""
    if not is_tuple_of(thing, 2) or not _are_named(thing[0], is_table):
        return False
    names = [pair[0] for pair in thing[0]]
    sorts = [column[1] for pair in thing[0] for column in pair[1][0]]
    return all([sort[0] in ("int", "below") or sort[1] in names for sort in sorts]) and _are_rules(thing[1], names)


def _sorts_in(schema, table):
    """Return the dict from the names of a table's columns to their SORTS."""
    return dict(dict(schema[0])[table][0])


def _has_table(schema, thing):
    """Whether thing, any value, is the name of a table."""
    return thing in [pair[0] for pair in schema[0]]


def is_row(schema, table, thing):
    """Whether thing is a ROW of the table, whether it FITS or not."""
    return is_tuple_of(thing, len(_sorts_in(schema, table))) and all([is_value(x) for x in thing])


def fits_sort(sort, thing):
    """Whether thing FITS a SORT."""
    if sort[0] == "may" and thing is None:
        return True
    return is_integer(thing) and (sort[0] != "below" or 0 <= thing < sort[1])


def fits_row(schema, table, row):
    """Whether row is a ROW each item of which FITS the SORT of its column."""
    if not is_row(schema, table, row):
        return False
    sorts = list(_sorts_in(schema, table).values())
    return all([fits_sort(sort, x) for sort, x in zip(sorts, row)])


def are_rows(schema, table, thing):
    """Whether thing is a dict from KEYS to ROWS that FIT."""
    return isinstance(thing, dict) and all([is_integer(x) and fits_row(schema, table, thing[x]) for x in thing])


def is_database(schema, thing):
    """Whether thing is a DATABASE, RIGHT or not."""
    names = [pair[0] for pair in schema[0]]
    if not isinstance(thing, dict) or len(thing) != len(names):
        return False
    return all([name in thing and are_rows(schema, name, thing[name]) for name in names])


def _is_at(schema, table, thing):
    """Whether all columns of an EXPRESSION or a CONDITION are there, each via one of a ref or a may."""
    todo = [(table, thing)]
    while todo:
        place, part = todo.pop()
        sorts = _sorts_in(schema, place)
        if part[0] in ("col", "via") and part[1] not in sorts:
            return False
        if part[0] == "via":
            sort = sorts[part[1]]
            if sort[0] not in ("ref", "may"):
                return False
            place = sort[1]
        todo.extend([(place, below) for below in subparts(part)])
    return True


def is_expression_at(schema, table, thing):
    """Whether thing is an EXPRESSION that has a WORTH at rows of the table."""
    return is_expression(thing) and _is_at(schema, table, thing)


def is_condition_at(schema, table, thing):
    """Whether thing is a CONDITION that HOLDS, or not, at rows of the table."""
    return is_condition(thing) and _is_at(schema, table, thing)


def is_query(schema, thing):
    """Whether thing is a QUERY."""
    if not isinstance(thing, tuple) or len(thing) < 3 or not _has_table(schema, thing[1]):
        return False
    if not is_condition_at(schema, thing[1], thing[2]):
        return False
    if thing[0] == "count":
        return len(thing) == 3
    if len(thing) != 4:
        return False
    if thing[0] == "total":
        return is_expression_at(schema, thing[1], thing[3])
    if thing[0] != "rows" or not isinstance(thing[3], tuple):
        return False
    return all([is_expression_at(schema, thing[1], worth) for worth in thing[3]])


def _is_need(schema, thing):
    """Whether a tuple is a need."""
    if len(thing) != 4 or not is_query(schema, thing[1]) or thing[1][0] == "rows":
        return False
    return is_value(thing[2]) and is_value(thing[3])


def _is_write(schema, thing):
    """Whether a tuple, whose item 1 is the name of a table, is an add, a set or a take."""
    table = thing[1]
    if thing[0] == "add":
        return len(thing) == 4 and is_integer(thing[2]) and is_row(schema, table, thing[3])
    if len(thing) < 3 or not is_condition_at(schema, table, thing[2]):
        return False
    if thing[0] == "take":
        return len(thing) == 3
    if thing[0] != "set" or len(thing) != 5:
        return False
    return thing[3] in list(_sorts_in(schema, table)) and is_expression_at(schema, table, thing[4])


def is_statement(schema, thing):
    """Whether thing is a STATEMENT."""
    if not isinstance(thing, tuple) or len(thing) < 2:
        return False
    if thing[0] == "ask":
        return len(thing) == 2 and is_query(schema, thing[1])
    if thing[0] == "need":
        return _is_need(schema, thing)
    return _has_table(schema, thing[1]) and _is_write(schema, thing)


def is_transaction(schema, thing):
    """Whether thing is a TRANSACTION."""
    return isinstance(thing, tuple) and all([is_statement(schema, statement) for statement in thing])
