"""What the words of one line tell, read from the left: SORTS, WAYS, EXPRESSIONS, CONDITIONS, values."""

from everyversion.errors import NoText
from everyversion.forms import is_name
from everyversion.grammar import CONDITIONS, EXPRESSIONS
from everyversion.words import integer_in


class Line:
    """A line of a text, its words being taken from the left; it raises NoText(line) if it is BAD."""

    def __init__(self, line, words):
        self.line = line
        self.words = words
        self.at = 0

    def want(self, so):
        """Tell that the line is BAD if something is not so."""
        if not so:
            raise NoText(self.line)

    def has_more(self):
        """Whether words are left."""
        return self.at < len(self.words)

    def take(self):
        """Return the next word."""
        self.want(self.has_more())
        self.at += 1
        return self.words[self.at - 1]


def read_name(line):
    """Return the NAME that comes next."""
    word = line.take()
    line.want(is_name(word))
    return word


def read_integer(line):
    """Return the integer that comes next."""
    number = integer_in(line.take())
    line.want(number is not None)
    return number


def read_value(line):
    """Return the integer or None that comes next."""
    word = line.take()
    if word == "none":
        return None
    number = integer_in(word)
    line.want(number is not None)
    return number


def read_sort(line):
    """Return what comes next and has the words of a SORT."""
    word = line.take()
    if word == "int":
        return (word,)
    if word == "below":
        return (word, read_integer(line))
    line.want(word in ("ref", "may"))
    return (word, read_name(line))


def _read_items(line):
    """Return the tuple of the integers ahead of an "end"."""
    items = []
    word = line.take()
    while word != "end":
        items.append(integer_in(word))
        line.want(items[-1] is not None)
        word = line.take()
    return tuple(items)


def read_way(line):
    """Return what comes next and has the words of a WAY."""
    word = line.take()
    if word == "turned":
        return (word,)
    if word == "list":
        return (word, _read_items(line))
    line.want(word in ("plus", "times", "over", "rest"))
    return (word, read_integer(line))


def _read_head(line, kind):
    """Return an "expression" or a "condition" without those that stand in it, and the kinds of these."""
    word = line.take()
    if kind == "condition":
        line.want(word in CONDITIONS)
        return ((word,), CONDITIONS[word])
    number = integer_in(word)
    if number is not None:
        return (("num", number), ())
    if word in ("key", "+", "-", "*"):
        return ((word,), EXPRESSIONS[word])
    if word == "via":
        return ((word, read_name(line)), ("expression",))
    if word == "by":
        return ((word, read_way(line)), ("expression",))
    line.want(is_name(word))
    return (("col", word), ())


def _read_formed(line, kind):
    """Return what comes next and has the words of an "expression" or a "condition"."""
    # No recursion: a line may lead deeper than Python's own stack.
    wanted = [kind]
    heads = []
    while wanted:
        head, kinds = _read_head(line, wanted.pop())
        heads.append((head, len(kinds)))
        wanted.extend(kinds[::-1])
    made = []
    for head, many in reversed(heads):
        first = len(made) - many
        made[first:] = [head + tuple(made[first:][::-1])]
    return made[0]


def read_expression(line):
    """Return what comes next and has the words of an EXPRESSION."""
    return _read_formed(line, "expression")


def read_condition(line):
    """Return what comes next and has the words of a CONDITION."""
    return _read_formed(line, "condition")


def read_table(line):
    """Return the TABLE that a line tells with all of its columns and its check."""
    columns = []
    word = line.take()
    while word == "column":
        name = read_name(line)
        columns.append((name, read_sort(line)))
        word = line.take()
    line.want(word == "check")
    return (tuple(columns), read_condition(line))


def read_names(line):
    """Return the tuple of all NAMES that are left."""
    names = []
    while line.has_more():
        names.append(read_name(line))
    return tuple(names)


def read_values(line):
    """Return the tuple of all values that are left."""
    values = []
    while line.has_more():
        values.append(read_value(line))
    return tuple(values)


def read_expressions(line):
    """Return the tuple of all EXPRESSIONS that are left."""
    expressions = []
    while line.has_more():
        expressions.append(read_expression(line))
    return tuple(expressions)


READERS = {
    "name": read_name,
    "names": read_names,
    "integer": read_integer,
    "many": read_integer,
    "value": read_value,
    "sort": read_sort,
    "way": read_way,
    "condition": read_condition,
    "table": read_table,
}


def read_kinds(line, kinds):
    """Return the list of what comes next, kind by kind."""
    things = []
    for kind in kinds:
        read = READERS[kind]
        things.append(read(line))
    return things
