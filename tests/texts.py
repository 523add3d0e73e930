"""Things told at random, always the same ones, for texts of them."""

import random

from samples import ALWAYS


class Teller:
    """Tells SCHEMAS, TRANSACTIONS, DATABASES and CHANGES by a seed."""

    def __init__(self, seed):
        self.random = random.Random(seed)

    def name(self):
        return self.random.choice("abcdxyz") + self.random.choice(["", "1", "ab", "0z9", "elevenmore1"])

    def names(self, many):
        return tuple(sorted({self.name() for _ in range(many)}))

    def number(self):
        return self.random.choice([0, 1, -1, 7, -12, 10 ** 9, -(10 ** 39), 10 ** 199, self.random.randrange(-99, 99)])

    def value(self):
        return self.random.choice([None, self.number()])

    def sort(self, tables):
        words = ["int", "below"] + (["ref", "may"] if tables else [])
        word = self.random.choice(words)
        if word == "int":
            return (word,)
        return (word, self.random.randrange(1, 1001) if word == "below" else self.random.choice(tables))

    def way(self):
        word = self.random.choice(["plus", "turned", "times", "over", "rest", "list"])
        if word == "turned":
            return (word,)
        if word == "list":
            return (word, tuple(self.number() for _ in range(self.random.randrange(1, 5))))
        return (word, self.number() if word == "plus" else self.random.randrange(1, 1001))

    def expression(self, columns, depth=3):
        """Return one over columns, a dict from names to the columns to which they lead, or None."""
        leaves = ["num", "key"] + (["col"] if columns else [])
        vias = [name for name in columns if columns[name] is not None]
        word = self.random.choice(leaves if depth == 0 else leaves + ["+", "-", "*", "by"] + (["via"] if vias else []))
        if word == "num":
            return (word, self.number())
        if word == "key":
            return (word,)
        if word == "col":
            return (word, self.random.choice(sorted(columns)))
        if word == "by":
            return (word, self.way(), self.expression(columns, depth - 1))
        if word == "via":
            column = self.random.choice(sorted(vias))
            return (word, column, self.expression(columns[column](), depth - 1))
        return (word, self.expression(columns, depth - 1), self.expression(columns, depth - 1))

    def condition(self, columns, depth=2):
        word = self.random.choice(["true", "<", "=", "none"] + (["and", "or", "not"] if depth else []))
        if word == "true":
            return (word,)
        if word in ("<", "="):
            return (word, self.expression(columns), self.expression(columns))
        if word == "none":
            return (word, self.expression(columns))
        return (word,) + tuple(self.condition(columns, depth - 1) for _ in range(1 if word == "not" else 2))

    def table(self, tables):
        columns = tuple((name, self.sort(tables)) for name in self.names(self.random.randrange(4)))
        free = {name: None for name, _ in columns}
        return (columns, self.condition(free) if self.random.random() < 0.7 else ALWAYS)

    def rules(self, tables):
        pairs = [(one, other) for one in tables for other in tables if one < other]
        made = {(self.random.choice(["apart", "same"]),) + self.random.choice(pairs) for _ in range(3) if pairs}
        return tuple(sorted(made))

    def schema(self):
        names = self.names(self.random.randrange(5))
        return (tuple((name, self.table(names)) for name in names), self.rules(names))

    def columns(self, schema, table):
        """Return what expression and condition want to know of a table."""
        told = {}
        for name, sort in dict(schema[0])[table][0]:
            leads = sort[0] in ("ref", "may")
            told[name] = (lambda target=sort[-1]: self.columns(schema, target)) if leads else None
        return told

    def query(self, schema, words):
        table = self.random.choice([name for name, _ in schema[0]])
        columns = self.columns(schema, table)
        told = (self.random.choice(words), table, self.condition(columns))
        if told[0] == "total":
            return told + (self.expression(columns),)
        if told[0] == "rows":
            return told + (tuple(self.expression(columns) for _ in range(self.random.randrange(4))),)
        return told

    def statement(self, schema):
        table = self.random.choice([name for name, _ in schema[0]])
        columns = self.columns(schema, table)
        word = self.random.choice(["ask", "add", "take", "need"] + (["set"] if columns else []))
        if word == "ask":
            return (word, self.query(schema, ["rows", "count", "total"]))
        if word == "need":
            return (word, self.query(schema, ["count", "total"]), self.value(), self.value())
        if word == "add":
            return (word, table, self.number(), tuple(self.value() for _ in columns))
        if word == "take":
            return (word, table, self.condition(columns))
        return (word, table, self.condition(columns), self.random.choice(sorted(columns)), self.expression(columns))

    def transaction(self, schema):
        return tuple(self.statement(schema) for _ in range(self.random.randrange(5) if schema[0] else 0))

    def item(self, sort):
        if sort[0] == "below":
            return self.random.randrange(sort[1])
        return self.value() if sort[0] == "may" else self.number()

    def database(self, schema):
        made = {}
        for name, (columns, _) in schema[0]:
            keys = [self.random.choice([self.number(), number]) for number in range(self.random.randrange(5))]
            made[name] = {key: tuple(self.item(sort) for _, sort in columns) for key in keys}
        return made

    def change(self):
        free = {name: (lambda: free) for name in self.names(3)}
        many, t, u, v, a, b, c = [self.random.randrange(1, 1001)] + [self.name() for _ in range(6)]
        return self.random.choice([
            ("call table", t, u), ("call column", t, a, b), ("add column", t, a, self.sort(("a", "b")), self.value()),
            ("drop column", t, a, self.value()), ("add table", t, self.table(("c", "d"))), ("drop table", t),
            ("split column", t, a, many, b, c), ("join columns", t, a, b, many, c),
            ("change column", t, a, self.sort(("a", "b")), self.way(), self.way()), ("move keys", t, self.number()),
            ("split table", t, self.condition(free), u, v), ("join tables", u, v, t),
            ("part table", t, self.names(4), u), ("put together", t, u)])

    def edges(self):
        return tuple((self.random.randrange(at + 1), self.change()) for at in range(self.random.randrange(5)))

    def spoiled(self, text):
        """Return a text with a word left out, twice, exchanged, or another one put in."""
        lines = [line.split(" ") for line in text.split("\n")]
        line = self.random.choice(lines)
        at = self.random.randrange(len(line))
        other = self.random.choice(self.random.choice(lines) + ["int", "5", "a", "-", "none", "check", "end", "true"])
        line[at:at + 1] = self.random.choice([[], [line[at]] * 2, [other], [other, line[at]], [line[at], other]])
        return "\n".join([" ".join(words) for words in lines])


def normal(text):
    """Return a text with one blank between words, without remarks and empty lines."""
    lines = [[word for word in line.split("#")[0].split(" ") if word] for line in text.split("\n")]
    return "\n".join([" ".join(words) for words in lines if words])
