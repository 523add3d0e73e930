"""Whether a SCHEMA refuses a CHANGE, and the CHANGE that leads back from one that is not REFUSED."""

from everyversion.bothways import is_led_off, is_led_out, is_value_of
from everyversion.changes import child_by
from everyversion.errors import NotTaken
from everyversion.forms import is_sort, is_tuple_of, is_value
from everyversion.hindrances import REASONS, is_led, is_missing
from everyversion.ways import columns_of, sort_of, table_of


def refusal(schema, change):
    """Return the REASON that comes first for which a CHANGE is REFUSED, None if it is not."""
    # The words come in order: what is looked into behind the first two is there.
    for word in REASONS:
        find = REASONS[word]
        found = find(schema, change)
        if found != []:
            return (word, found[0])
    return None


def _is_wrongly_led(schema, change, word, things):
    """Whether values are of the SORTS of a change column, and led wrongly."""
    if not is_led(schema, change):
        return False
    _, table, column, new, way, back = change
    old = sort_of(schema, table, column)
    if word == "out":
        return is_tuple_of(things, 1) and is_value_of(old, things[0]) and is_led_out(way, new, things[0])
    if word == "out back":
        return is_tuple_of(things, 1) and is_value_of(new, things[0]) and is_led_out(back, old, things[0])
    if not is_tuple_of(things, 2) or not is_value_of(old, things[0]) or not is_value_of(new, things[1]):
        return False
    return is_led_off(way, back, things[0]) and is_led_off(back, way, things[1])


def _may_stand(word, things):
    """Whether things have no True or False where an integer could stand."""
    if word == "sort":
        return is_tuple_of(things, 1) and is_sort(things[0])
    return word != "value" or is_tuple_of(things, 1) and is_value(things[0])


def is_reason(schema, change, thing):
    """Whether any value is a REASON that is so, whether it comes first or not."""
    if not is_tuple_of(thing, 2) or not isinstance(thing[0], str) or thing[0] not in REASONS:
        return False
    word, things = thing
    if word not in ("no table", "no column") and is_missing(schema, change):
        return False
    if word in ("out", "out back", "ways"):
        return _is_wrongly_led(schema, change, word, things)
    find = REASONS[word]
    return _may_stand(word, things) and things in find(schema, change)


def child_schema(schema, change):
    """Return the CHILD; it raises NotTaken(word, things) with the refusal."""
    reason = refusal(schema, change)
    if reason is not None:
        raise NotTaken(reason[0], reason[1])
    return child_by(schema, change)


def _uncalled(schema, change):
    # What is called stands last, what it is called ahead of it.
    return change[:-2] + (change[-1], change[-2])


def _added_dropped(schema, change):
    return ("drop column", change[1], change[2], change[4])


def _dropped_added(schema, change):
    _, table, column, value = change
    return ("add column", table, column, sort_of(schema, table, column), value)


def _table_dropped(schema, change):
    return ("drop table", change[1])


def _table_added(schema, change):
    return ("add table", change[1], table_of(schema, change[1]))


def _split_joined(schema, change):
    _, table, column, many, high, low = change
    return ("join columns", table, high, low, many, column)


def _joined_split(schema, change):
    _, table, high, low, many, column = change
    return ("split column", table, column, many, high, low)


def _changed_back(schema, change):
    _, table, column, _, way, back = change
    return ("change column", table, column, sort_of(schema, table, column), back, way)


def _moved_back(schema, change):
    return ("move keys", change[1], -change[2])


def _tables_joined(schema, change):
    return ("join tables", change[3], change[4], change[1])


def _tables_split(schema, change):
    _, one, other, table = change
    return ("split table", table, table_of(schema, one)[1][2], one, other)


def _put_back(schema, change):
    return ("put together", change[1], change[3])


def _parted_again(schema, change):
    return ("part table", change[1], columns_of(schema, change[2]), change[2])


CONTRARIES = {
    "call table": _uncalled,
    "call column": _uncalled,
    "add column": _added_dropped,
    "drop column": _dropped_added,
    "add table": _table_dropped,
    "drop table": _table_added,
    "split column": _split_joined,
    "join columns": _joined_split,
    "change column": _changed_back,
    "move keys": _moved_back,
    "split table": _tables_joined,
    "join tables": _tables_split,
    "part table": _put_back,
    "put together": _parted_again,
}


def back_change(schema, change):
    """Return the CHANGE that leads from the CHILD to a SCHEMA that is ALIKE this one."""
    turn_about = CONTRARIES[change[0]]
    return turn_about(schema, change)
