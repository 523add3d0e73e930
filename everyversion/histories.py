"""HISTORIES: the life of each version told alone, as one of a DATABASE of its SCHEMA."""

from everyversion.databases import copied, is_right
from everyversion.errors import Refused
from everyversion.explaining import turned_into
from everyversion.forms import ascends, is_database, is_integer, is_transaction, is_tuple_of
from everyversion.meanings import first_meaning
from everyversion.running import run
from everyversion.sameness import is_same
from everyversion.sidebyside import meaning_steps, run_meaning
from everyversion.trees import schema_at


def _rows_behind(index, line, told, before, after, version):
    """Return the list of the one row that a LINE adds to the HISTORY of a version, [] if it adds none."""
    if told[0] != "answers" or version not in before[1]:
        return []
    if line[1] == version:
        return [(index, "own", line[2], tuple(told[1]))]
    one, other = before[2][version], after[2][version]
    return [] if one == other else [(index, "others", turned_into(schema_at(after[0], version), one, other), ())]


def history_of(schema, course, happened, version):
    """Return the HISTORY of a version in a COURSE, None if it is never LIVE."""
    before = first_meaning(schema)
    first = before[2].get(version)
    rows = []
    for index, (told, after) in enumerate(meaning_steps(schema, course, happened)):
        rows.extend(_rows_behind(index, course[index], told, before, after, version))
        if first is None:
            first = after[2].get(version)
        before = after
    return None if first is None else (first, tuple(rows))


def schema_of_version(schema, course, happened, version):
    """Return the SCHEMA of a version that is LIVE at some time."""
    return schema_at(run_meaning(schema, course, happened)[1][0], version)


def replayed(schema, history):
    """Return the list of the DATABASES that come of running the TRANSACTIONS of a HISTORY."""
    database, rows = history
    found = [copied(database)]
    for _, _, transaction, _ in rows:
        found.append(run(schema, found[-1], transaction)[1])
    return found


def _is_row(schema, thing):
    """Whether any value has the form of what a HISTORY tells of a LINE."""
    if not is_tuple_of(thing, 4) or not is_integer(thing[0]) or thing[0] < 0 or not is_transaction(schema, thing[2]):
        return False
    if thing[1] == "own":
        return isinstance(thing[3], tuple)
    return thing[1] == "others" and thing[3] == ()


def _is_told(whose, answers, said):
    """Whether the ANSWERS of a TRANSACTION that is run are those that a HISTORY tells."""
    return whose == "others" or is_same(tuple(answers), said)


def _is_replayed(schema, history):
    """Whether no TRANSACTION is REFUSED, and all own ones tell their ANSWERS."""
    database = history[0]
    for _, whose, transaction, said in history[1]:
        try:
            answers, database = run(schema, database, transaction)
        except Refused:
            return False
        if not _is_told(whose, answers, said):
            return False
    return True


def is_lived(schema, thing):
    """Whether any value has the form of a HISTORY of a version of a SCHEMA, and may be one."""
    if not is_tuple_of(thing, 2) or not is_database(schema, thing[0]) or not is_right(schema, thing[0]):
        return False
    if not isinstance(thing[1], tuple) or not all([_is_row(schema, row) for row in thing[1]]):
        return False
    return ascends([row[0] for row in thing[1]]) and _is_replayed(schema, thing)
