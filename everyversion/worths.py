"""What EXPRESSIONS are worth, and whether CONDITIONS hold, at a row."""

from everyversion.grammar import subparts
from everyversion.ways import columns_of, led, sort_of


class Place:
    """A row at which something is told: its table, its key, and what stands in its columns."""

    def __init__(self, table, key, columns, row):
        self.table = table
        self.key = key
        self.told = dict(zip(columns, row))


def _place_at(schema, database, table, key):
    """Return the Place of a row, None if it is not there."""
    if key not in database[table]:
        return None
    return Place(table, key, columns_of(schema, table), database[table][key])


def _place_behind(schema, database, place, column):
    """Return the Place to which a ref or a may leads, None if it leads nowhere."""
    return _place_at(schema, database, sort_of(schema, place.table, column)[1], place.told[column])


def _number_of(word, one, other):
    """Return the sum, difference or product of two worths."""
    if one is None or other is None:
        return None
    if word == "+":
        return one + other
    return one - other if word == "-" else one * other


def _worth_of(part, place, below):
    """Return the WORTH of an EXPRESSION, below being those of the ones that stand in it."""
    if part[0] == "num":
        return part[1]
    if part[0] == "key":
        return place.key
    if part[0] == "col":
        return place.told[part[1]]
    if part[0] == "via":
        return below[0] if below else None
    if part[0] == "by":
        return None if below[0] is None else led(part[1], below[0])
    return _number_of(part[0], below[0], below[1])


def _is_so(part, below):
    """Whether a CONDITION HOLDS, below being what the ones that stand in it tell."""
    if part[0] == "<":
        return below[0] is not None and below[1] is not None and below[0] < below[1]
    if part[0] == "=":
        return below[0] == below[1]
    if part[0] == "none":
        return below[0] is None
    if part[0] == "and":
        return below[0] and below[1]
    if part[0] == "or":
        return below[0] or below[1]
    return not below[0] if part[0] == "not" else True


def _told(part, place, below):
    """Return what an EXPRESSION or a CONDITION tells."""
    if part[0] in ("true", "<", "=", "none", "and", "or", "not"):
        return _is_so(part, below)
    return _worth_of(part, place, below)


def _parts_from(schema, database, first, thing):
    """Return the list of tuples (part, place, how many stand in it), those that stand in one behind it."""
    todo = [(thing, first)]
    found = []
    while todo:
        part, place = todo.pop()
        below = subparts(part)
        there = place
        if part[0] == "via":
            there = _place_behind(schema, database, place, part[1])
            # What stands in a via that leads nowhere has no row at which it could be told.
            below = () if there is None else below
        found.append((part, place, len(below)))
        todo.extend([(deeper, there) for deeper in below])
    return found


def _told_from(schema, database, first, thing):
    """Return what an EXPRESSION or a CONDITION tells at a Place."""
    told = []
    for part, place, many in reversed(_parts_from(schema, database, first, thing)):
        start = len(told) - many
        told[start:] = [_told(part, place, told[start:])]
    return told[0]


def worth(schema, database, table, key, expression):
    """Return the WORTH of an EXPRESSION at a row."""
    return _told_from(schema, database, _place_at(schema, database, table, key), expression)


def holds(schema, database, table, key, condition):
    """Whether a CONDITION HOLDS at a row."""
    return _told_from(schema, database, _place_at(schema, database, table, key), condition)


def worth_in(columns, key, row, expression):
    """Return the WORTH of an EXPRESSION without via at a ROW whose columns have these names."""
    return _told_from(None, None, Place(None, key, columns, row), expression)


def holds_in(columns, key, row, condition):
    """Whether a CONDITION without via HOLDS at a ROW whose columns have these names."""
    return _told_from(None, None, Place(None, key, columns, row), condition)
