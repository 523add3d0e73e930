"""The words of names, EXPRESSIONS and CONDITIONS, and what stands in one of the latter."""

LETTERS = "abcdefghijklmnopqrstuvwxyz"
DIGITS = "0123456789"

WORDS = (
    "add", "and", "apart", "ask", "below", "by", "call", "change", "check", "column", "columns", "count",
    "drop", "end", "from", "int", "join", "key", "keys", "list", "may", "move", "need", "none", "not",
    "or", "over", "part", "plus", "put", "ref", "rest", "row", "rows", "same", "set", "split", "table",
    "tables", "take", "times", "to", "together", "total", "true", "turned", "via",
)

# What stands behind the first item of an EXPRESSION and of a CONDITION.
EXPRESSIONS = {
    "num": ("integer",),
    "key": (),
    "col": ("name",),
    "via": ("name", "expression"),
    "+": ("expression", "expression"),
    "-": ("expression", "expression"),
    "*": ("expression", "expression"),
    "by": ("way", "expression"),
}
CONDITIONS = {
    "true": (),
    "<": ("expression", "expression"),
    "=": ("expression", "expression"),
    "none": ("expression",),
    "and": ("condition", "condition"),
    "or": ("condition", "condition"),
    "not": ("condition",),
}


def subparts(part):
    """Return the tuple of the EXPRESSIONS and CONDITIONS that stand directly in one."""
    if part[0] in ("num", "col"):
        return ()
    if part[0] in ("via", "by"):
        return part[2:]
    return part[1:]


def parts_in(thing):
    """Return the list of all EXPRESSIONS and CONDITIONS in one, itself last, each behind those in it."""
    # No recursion: what a text tells may be deeper than Python's own stack.
    todo = [thing]
    found = []
    while todo:
        part = todo.pop()
        found.append(part)
        todo.extend(subparts(part))
    return found[::-1]
