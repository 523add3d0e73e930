"""SCHEMAS, CHANGES, RIGHT DATABASES and TRANSACTIONS told at random, always the same ones, that go together."""

import random

from everyversion.changes import CHANGES, child_by
from everyversion.copies import first_copies, spread
from everyversion.databases import broken
from everyversion.explaining import turned_into
from everyversion.refusals import refusal
from everyversion.running import run, would_run
from everyversion.sides import wide_side
from everyversion.store import store_of
from everyversion.trees import schema_at
from everyversion.ways import columns_of, sort_of, tables_of
from everyversion.worths import holds_in
from samples import ALWAYS

KEY = ("key",)
TABLES = "abcdefgh"
COLUMNS = "mnopqrst"
HIDING = ("add column", "drop column", "change column", "add table")


class Life:
    """Tells what goes together, by a seed."""

    def __init__(self, seed):
        self.random = random.Random(seed)

    def one(self, things):
        return self.random.choice(list(things))

    def chance(self, share):
        return self.random.random() < share

    def some(self, things, least, most):
        things = list(things)
        return sorted(self.random.sample(things, min(len(things), self.random.randint(least, most))))

    # What stands in a SCHEMA.

    def sort(self, tables):
        word = self.one(["int", "below", "below", "ref", "may", "may"])
        if word == "int":
            return (word,)
        return (word, self.one([1, 2, 4, 6, 12, 12, 1000]) if word == "below" else self.one(tables))

    def expression(self, columns, depth=1):
        word = self.one(["col", "num", "key", "by", "+", "-", "*"][:7 if depth else 3])
        if word == "num" or word == "col" and not columns:
            return ("num", self.random.randint(-3, 12))
        if word == "col":
            return ("col", self.one(columns))
        if word == "key":
            return KEY
        if word == "by":
            return (word, self.way(), self.expression(columns, depth - 1))
        return (word, self.expression(columns, depth - 1), self.expression(columns, depth - 1))

    def way(self):
        return self.one([("plus", self.random.randint(-3, 3)), ("turned",), ("times", 2), ("over", 3), ("rest", 4),
                         ("list", tuple(self.random.randint(-2, 5) for _ in range(3)))])

    def condition(self, columns, depth=2):
        word = self.one(["<", "=", "none", "not", "and", "or"][:6 if depth else 3])
        if word in ("<", "="):
            return (word, self.expression(columns), self.expression(columns))
        if word == "none":
            return (word, self.expression(columns))
        return (word,) + tuple(self.condition(columns, depth - 1) for _ in range(1 if word == "not" else 2))

    def check(self, columns):
        """Return a check that holds often enough."""
        if self.chance(0.5) or not columns:
            return ALWAYS
        loose = [("not", ("=", ("col", self.one(columns)), ("num", self.one([1, 2, 3])))) for _ in range(2)]
        loose.append(("<", ("num", self.random.randint(-9, -3)), self.expression(columns[:1], 0)))
        return self.one([self.condition(columns), loose[0], ("and", loose[0], loose[1]), ("and", loose[2], loose[1])])

    def table(self, tables):
        columns = [(column, self.sort(tables)) for column in self.some(COLUMNS, 0, 4)]
        return (tuple(columns), self.check([column for column, _ in columns]))

    def first_schema(self):
        tables = self.some(TABLES, 1, 4)
        pairs = [(one, other) for one in tables for other in tables if one < other]
        rules = sorted({(self.one(["apart", "same"]), *self.one(pairs)) for _ in range(self.one([0, 0, 0, 1, 2])) if pairs})
        return (tuple((table, self.table(tables)) for table in tables), tuple(rules))

    def schema(self):
        """Return one that some CHANGES may have led to."""
        schema = self.first_schema()
        for _ in range(self.random.randint(0, 3)):
            change = self.taken(schema, self.one([None, "split table", "part table"]))
            if change is not None:
                schema = child_by(schema, change)
        return schema

    # CHANGES.

    def name(self, names):
        return self.one(names + "xyz") if self.chance(0.1) else self.one([*"vwxyz", "a1", "m2", "z9"])

    def there(self, names):
        return self.one(names) if names and not self.chance(0.03) else "nowhere"

    def value(self, sort):
        if sort[0] == "may" and not self.chance(0.05):
            return None
        if sort[0] == "below" and not self.chance(0.05):
            return self.random.randrange(sort[1])
        return self.one([0, 3, -5, 10 ** 9, None if self.chance(0.1) else 7])

    def sort_or_int(self, schema, table, column):
        return sort_of(schema, table, column) if column in self.columns(schema, table) else ("int",)

    def columns(self, schema, table):
        return list(columns_of(schema, table)) if table in tables_of(schema) else []

    def ways(self, sort):
        """Return a new SORT, and a WAY and a WAY back, for a SORT that is changed."""
        k, n = self.random.randint(-5, 5), self.one([2, 3, 4])
        if sort[0] == "below" and sort[1] <= 12:
            order = self.random.sample(range(sort[1]), sort[1])
            back = tuple(order.index(x) for x in range(sort[1]))
            merged = tuple(x // 2 * 2 for x in range(sort[1]))
            return self.one([
                (sort, ("list", tuple(order)), ("list", back)), (sort, ("list", merged), ("plus", 0)),
                (("below", sort[1] * n), ("times", n), ("over", n)), (("int",), ("plus", k), ("rest", sort[1])),
                (("below", -(-sort[1] // n)), ("over", n), ("times", n)), (("int",), ("plus", 0), ("rest", sort[1])),
                (("below", sort[1] + 2), ("plus", 1), ("list", (0,) + tuple(range(sort[1])) + (0,))),
                (("below", n), ("rest", n), ("plus", 0)), (("below", 12), ("plus", 0), ("rest", sort[1]))])
        return self.one([
            (("int",), ("plus", k), ("plus", -k)), (("int",), ("turned",), ("turned",)), (("int",), ("times", n), ("over", n)),
            (("int",), ("over", n), ("times", n)), (("below", n), ("rest", n), ("plus", k)), (("int",), ("plus", k), ("plus", k)),
            (("below", 7), ("rest", 7), ("plus", 0)), (("int",), ("rest", 5), ("plus", 0)), (("int",), ("plus", 0), ("rest", 5))])

    def change(self, schema, word=None):
        """Return a CHANGE that a SCHEMA may take."""
        word = word or self.one(CHANGES)
        tables = list(tables_of(schema))
        t = self.there(tables)
        columns = self.columns(schema, t)
        c = self.there(columns)
        if word == "call table":
            return (word, t, self.name(TABLES))
        if word == "call column":
            return (word, t, c, self.name(COLUMNS))
        if word == "add column":
            sort = self.sort(tables or ["a"])
            return (word, t, self.name(COLUMNS), sort, self.value(sort))
        if word == "drop column":
            return (word, t, c, self.value(self.sort_or_int(schema, t, c)))
        if word == "add table":
            name = self.name(TABLES)
            return (word, name, self.table(tables + [name] if self.chance(0.95) else ["nowhere"]))
        if word == "drop table":
            return (word, t)
        if word == "split column":
            return (word, t, c, self.one([1, 2, 3, 4, 6]), *self.some("uvwxyz", 2, 2)[::self.one([1, -1])])
        if word == "join columns":
            lows = [low for low in columns if sort_of(schema, t, low)[0] == "below"]
            low = self.there(lows)
            many = self.sort_or_int(schema, t, low)[-1]
            highs = [column for column in columns if column != low or self.chance(0.1)]
            return (word, t, self.there(highs), low, many if many != "int" else 5, self.name(COLUMNS))
        if word == "change column":
            return (word, t, c, *self.ways(self.sort_or_int(schema, t, c)))
        if word == "move keys":
            return (word, t, self.random.randint(-4, 4))
        if word == "split table":
            one, other = self.name(TABLES), self.name(TABLES)
            return (word, t, self.condition(columns), self.one([one, t]), self.one([other, other, t]))
        if word == "part table":
            return (word, t, tuple(self.some(columns, 1, 3)) or ("q",), self.name(TABLES))
        pairs = [rule[1:] for rule in schema[1] if rule[0] == ("apart" if word == "join tables" else "same")]
        u, v = self.one(pairs or [(self.there(tables), self.there(tables))])
        if self.chance(0.5):
            u, v = v, u
        return (word, u, v, self.one([self.name(TABLES), u])) if word == "join tables" else (word, u, v)

    def taken(self, schema, word=None):
        """Return a CHANGE that a SCHEMA takes, None if none was found."""
        for _ in range(40):
            change = self.change(schema, word)
            if refusal(schema, change) is None:
                return change
        return None

    # DATABASES and TRANSACTIONS.

    def item(self, sort):
        if sort[0] == "below":
            return self.random.randrange(sort[1])
        if sort[0] == "may" and self.chance(0.3):
            return None
        return self.random.randint(-6, 12) if sort[0] == "int" else self.random.randint(0, 5)

    def row(self, schema, table):
        return tuple(self.item(sort) for _, sort in dict(schema[0])[table][0])

    def keys(self, schema, most):
        """Return keys for each table, those of a same rule alike, those of an apart rule mostly not."""
        made = {table: self.some(range(-1, 7), 0, most) for table in tables_of(schema)}
        for word, one, other in schema[1]:
            if word == "same":
                made[other] = made[one]
            elif self.chance(0.9):
                made[other] = [key for key in made[other] if key not in made[one]]
        return made

    def right_row(self, schema, table, key, keys):
        """Return one that leads to keys, and at which the check HOLDS, if some such was found."""
        columns, check = dict(schema[0])[table]
        for _ in range(6):
            row = [self.item(sort) for _, sort in columns]
            for at, (_, sort) in enumerate(columns):
                if sort[0] in ("ref", "may") and row[at] is not None:
                    row[at] = self.one(keys[sort[1]] or ([None] if sort[0] == "may" else [0]))
            if holds_in([column for column, _ in columns], key, row, check):
                break
        return tuple(row)

    def database(self, schema, most=5):
        """Return a RIGHT one."""
        keys = self.keys(schema, most)
        made = {}
        for table in self.random.sample(tables_of(schema), len(schema[0])):
            made[table] = {key: self.right_row(schema, table, key, keys) for key in keys[table]}
        return self.repaired(schema, made)

    def repaired(self, schema, made):
        """Return a DATABASE without rows that keep it from being RIGHT."""
        found = broken(schema, made)
        while found:
            if found[0][0] in ("ref", "check"):
                del made[found[0][1]][found[0][2]]
            else:
                made[self.one([table for table in found[0][1:3] if found[0][3] in made[table]])].pop(found[0][3])
            found = broken(schema, made)
        return made

    def near(self, schema, database):
        """Return a RIGHT one that has most rows of another one, and some others."""
        made = {table: dict(rows) for table, rows in database.items()}
        keys = {table: sorted(rows) for table, rows in made.items()}
        for table in made:
            for key in [key for key in keys[table] if self.chance(0.3)] + [self.random.randint(-1, 6)]:
                made[table][key] = self.right_row(schema, table, key, keys)
        return self.repaired(schema, made)

    def worth(self, schema, table, depth=1):
        """Return an EXPRESSION that may have a via."""
        vias = [column for column, sort in dict(schema[0])[table][0] if sort[0] in ("ref", "may")]
        if vias and self.chance(0.3):
            column = self.one(vias)
            return ("via", column, self.worth(schema, sort_of(schema, table, column)[1], 0))
        return self.expression(list(columns_of(schema, table)), depth)

    def where(self, schema, table):
        if self.chance(0.3):
            return ("=", KEY, ("num", self.random.randint(-1, 6)))
        word = self.one(["true", "<", "=", "none", "not"])
        if word == "true":
            return ALWAYS
        if word == "none":
            return (word, self.worth(schema, table))
        if word == "not":
            return (word, self.where(schema, table))
        return (word, self.worth(schema, table), self.worth(schema, table))

    def query(self, schema, words):
        table = self.one(tables_of(schema))
        told = (self.one(words), table, self.where(schema, table))
        if told[0] == "count":
            return told
        if told[0] == "total":
            return told + (self.worth(schema, table),)
        return told + (tuple(self.worth(schema, table) for _ in range(self.random.randint(0, 3))),)

    def statement(self, schema):
        table = self.one(tables_of(schema))
        columns = columns_of(schema, table)
        word = self.one(["ask", "add", "add", "take", "need"] + ["set"] * 3)
        if word == "ask":
            return (word, self.query(schema, ["rows", "count", "total"]))
        if word == "need":
            return (word, self.query(schema, ["count", "total"]), self.one([None, -5, 0]), self.one([None, 9]))
        if word == "add" or word == "set" and not columns:
            return ("add", table, self.random.randint(-1, 9), self.row(schema, table))
        if word == "take":
            return (word, table, self.where(schema, table))
        column = self.one(columns)
        told = self.worth(schema, table) if self.chance(0.5) else ("num", self.item(sort_of(schema, table, column)) or 0)
        return (word, table, self.where(schema, table), column, told)

    def transaction(self, schema):
        return tuple(self.statement(schema) for _ in range(self.random.randint(0, 4) if schema[0] else 0))

    def taken_transaction(self, schema, database):
        """Return one that changes a DATABASE, if such was found, and is not REFUSED."""
        for _ in range(6):
            transaction = self.transaction(schema)
            if would_run(schema, database, transaction) and run(schema, database, transaction)[1] != database:
                return transaction
        return turned_into(schema, database, self.one([self.database(schema), self.near(schema, database)]))

    # TREES, LIVE versions and COPIES.

    def tree(self, most=6):
        """Return one with some edges, of which several may lead from one version."""
        schemas = [self.schema()]
        edges = []
        for _ in range(self.random.randint(most // 2, most)):
            version = self.random.randrange(len(schemas))
            change = self.taken(schemas[version], self.one([*CHANGES, *HIDING, *HIDING]))
            if change is not None:
                edges.append((version, change))
                schemas.append(child_by(schemas[version], change))
        return (schemas[0], tuple(edges))

    def live(self, tree):
        """Return versions that hang together."""
        found = [self.random.randint(0, len(tree[1]))]
        near = ["any"]
        while near and self.chance(0.9):
            found = found + [self.one(near)] if near != ["any"] else found
            near = [far for far in range(len(tree[1]) + 1) if far not in found and any(
                far == tree[1][one - 1][0] if one > far else one == tree[1][far - 1][0] for one in found)]
        return tuple(sorted(found))

    def copies(self, tree, live):
        """Return some that several versions have written."""
        version = self.one(live)
        copies = spread(tree, live, first_copies(tree, live), version, self.database(schema_at(tree, version)))
        for version in self.random.sample(live, len(live)):
            copies = spread(tree, live, copies, version, self.near(schema_at(tree, version), copies[version]))
        return copies

    def store(self, most=6):
        tree = self.tree(most)
        live = self.live(tree)
        return store_of(tree, live, self.one(live), self.copies(tree, live))


def taken_changes(many, words):
    """Tell (life, SCHEMA, CHANGE that it takes) for as many seeds, so far as such a CHANGE of these words was found."""
    for seed in range(many):
        life = Life(seed)
        schema = life.schema()
        change = life.taken(schema, life.one(words))
        if change is not None:
            yield life, schema, change


def sides_of(schema, change):
    """Return the SCHEMAS of the WIDE and of the narrow side."""
    child = child_by(schema, change)
    return (schema, child) if wide_side(schema, change) == "parent" else (child, schema)
