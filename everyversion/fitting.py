"""What is HIDDEN fitted to a narrow DATABASE, and DATABASES carried over from one side of a CHANGE to the other."""

from everyversion.databases import is_right
from everyversion.forms import fits_row, fits_sort, is_integer
from everyversion.leading import Step, hidden_of
from everyversion.sides import told_narrow, told_wide
from everyversion.ways import index_of, led, sort_of


def _is_entry(step, thing):
    """Whether any value may stand under a key of what is HIDDEN."""
    word, table = step.change[:2]
    if word == "add table":
        return fits_row(step.wide, table, thing)
    if word in ("add column", "change column"):
        return fits_sort(sort_of(step.wide, table, step.change[2]), thing)
    # Nothing is HIDDEN at all other changes.
    return False


def may_be_hidden(step, thing):
    """Whether any value has the form of what is HIDDEN, whatever narrow DATABASE it FITS."""
    return isinstance(thing, dict) and all([is_integer(key) and _is_entry(step, thing[key]) for key in thing])


def fits(schema, change, narrow, thing):
    """Whether any value is a HIDDEN dict that FITS a narrow DATABASE."""
    step = Step(schema, change)
    if not may_be_hidden(step, thing):
        return False
    wide = told_wide(step, narrow, thing)
    return is_right(step.wide, wide) and told_narrow(step, wide) == narrow and hidden_of(step, wide) == thing


def _fitted_column(change, hidden, narrow):
    """Return the entries of an added column that can be kept."""
    rows = narrow[change[1]]
    sort = change[3]
    kept = {key: hidden[key] for key in sorted(hidden) if key in rows}
    return {key: value for key, value in kept.items() if sort[0] != "may" or value in narrow[sort[1]]}


def _fitted_change(step, hidden, narrow):
    """Return the entries of a changed column that can be kept."""
    _, table, column, _, _, back = step.change
    rows = narrow[table]
    at = index_of(step.narrow, table, column)
    return {key: hidden[key] for key in sorted(hidden) if key in rows and led(back, hidden[key]) == rows[key][at]}


def _is_lost(keys, word, sort, value):
    """Whether a SORT is of this word, "ref" or "may", and the value a key that is not there."""
    return sort[0] == word and value not in keys[sort[1]]


def _stands(sorts, keys, row):
    """Whether all refs of a row lead to keys that are there."""
    return not any([_is_lost(keys, "ref", sort, value) for sort, value in zip(sorts, row)])


def _freed(sorts, keys, row):
    """Return a row in which each may that leads to a key that is not there is None."""
    return tuple([None if _is_lost(keys, "may", sort, value) else value for sort, value in zip(sorts, row)])


def _fitted_rows(change, hidden, narrow):
    """Return the rows of an added table that do not FALL, those to which they lead being there."""
    _, table, (columns, _) = change
    sorts = [sort for _, sort in columns]
    rows = {}
    left = {key: hidden[key] for key in sorted(hidden)}
    while left != rows:
        rows = left
        left = {key: row for key, row in rows.items() if _stands(sorts, {**narrow, table: rows}, row)}
    return {key: _freed(sorts, {**narrow, table: rows}, row) for key, row in rows.items()}


def _fitted(step, hidden, narrow):
    """Return what FITS a narrow DATABASE of a HIDDEN dict."""
    word = step.change[0]
    if word == "add column":
        return _fitted_column(step.change, hidden, narrow)
    if word == "change column":
        return _fitted_change(step, hidden, narrow)
    return _fitted_rows(step.change, hidden, narrow) if word == "add table" else {}


def fitted(schema, change, hidden, narrow):
    """Return what FITS a narrow DATABASE of a HIDDEN dict, all of it being kept that can be kept."""
    return _fitted(Step(schema, change), hidden, narrow)


def carried(schema, change, side, new, old):
    """Return the DATABASE of the other side that AGREES with a new one of side, old being what was there."""
    step = Step(schema, change)
    if step.is_parent_wide == (side == "parent"):
        return told_narrow(step, new)
    return told_wide(step, new, _fitted(step, hidden_of(step, old), new))


def first_carried(schema, change, side, new):
    """Return what is carried over where nothing was HIDDEN."""
    step = Step(schema, change)
    if step.is_parent_wide == (side == "parent"):
        return told_narrow(step, new)
    return told_wide(step, new, {})
