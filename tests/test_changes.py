"""[26], and of [29] the tables that a change names: the forms of CHANGES, and the CHILD of each."""

import unittest

from everyversion.changes import child_by, is_change, named_below, named_tables
from everyversion.forms import is_schema
from samples import ALWAYS, ANYTHING, SORTS, WAYS, WORDS, Checks, spoiled

KEY = ("key",)
INT = ("int",)
A, B, C, X = ("col", "a"), ("col", "b"), ("col", "c"), ("col", "x")
TABLE = ((("a", INT), ("b", ("may", "t"))), ("<", A, ("num", 3)))

CHANGES = [
    ("call table", "t", "u"), ("call column", "t", "a", "b"), ("add column", "t", "a", INT, 5),
    ("add column", "t", "a", ("may", "u"), None), ("drop column", "t", "a", -5), ("drop column", "t", "a", None),
    ("add table", "t", TABLE), ("add table", "t", ((), ALWAYS)), ("drop table", "t"),
    ("split column", "t", "a", 1, "b", "c"), ("split column", "t", "a", 1000, "b", "c"),
    ("join columns", "t", "a", "b", 1, "c"), ("join columns", "t", "a", "b", 1000, "c"),
    ("change column", "t", "a", ("below", 6), ("over", 2), ("times", 2)), ("move keys", "t", 0),
    ("move keys", "t", -(10 ** 39)), ("split table", "t", ALWAYS, "u", "v"),
    ("split table", "t", ("none", ("via", "a", ("col", "b"))), "t", "t"), ("join tables", "u", "v", "t"),
    ("part table", "t", ("a",), "u"), ("part table", "t", ("a", "a2", "b"), "u"), ("put together", "t", "u"),
]

KINDS = {
    "call table": "name name", "call column": "name name name", "add column": "name name sort value",
    "drop column": "name name value", "add table": "name table", "drop table": "name",
    "split column": "name name many name name", "join columns": "name name name many name",
    "change column": "name name sort way way", "move keys": "name integer", "split table": "name condition name name",
    "join tables": "name name name", "part table": "name names name", "put together": "name name",
}
WRONG = {
    "any": [True, False, "", (), [], {}, "2x", "key", ("key",), [INT], {"a": 1}, ((),)],
    "name": [None, 1, INT, ("a",), ALWAYS, ("turned",), TABLE],
    "names": [None, 1, "a", INT, ("b", "a"), ("a", "a"), ("a", 1), ("a", "2x"), ["a"], ("abcdefghijklm",), {"a": True}],
    "many": [None, 0, -1, 1001, 10 ** 39, "a", INT, (1,)],
    "integer": [None, "a", "1", INT, (1,), ("num", 1)],
    "value": ["a", "none", "1", INT, (1,), (None,), ("num", 1)],
    "sort": [None, 1, "a", "int", ALWAYS, ("turned",), ["int"], ("below", 0), ("below", 1001), ("ref", 1), ("may", "row")],
    "way": [None, 1, "a", "turned", INT, ALWAYS, ["turned"], ("over", 0), ("list", ()), ("plus", None), ("rest", 1001)],
    "condition": [None, 1, "a", "true", INT, ("turned",), ["true"], ("not", ("key",)), ("none", ("num", True))],
    "table": [None, 1, "a", INT, ALWAYS, ((), INT), (ALWAYS, ALWAYS), [(), ALWAYS], ((), ALWAYS, ALWAYS), ((), ("none", A))],
}


class Forms(Checks):

    def test_changes(self):
        for change in CHANGES:
            self.so(is_change, change)
        for sort in SORTS:
            self.so(is_change, ("add column", "t", "a", sort, 0))
            self.so(is_change, ("change column", "t", "a", sort, ("turned",), ("turned",)))
        for way in WAYS:
            self.so(is_change, ("change column", "t", "a", INT, way, ("turned",)))
            self.so(is_change, ("change column", "t", "a", INT, ("turned",), way))

    def test_too_many_and_too_few(self):
        for change in CHANGES:
            for many in range(len(change)):
                self.not_so(is_change, change[:many])
            for more in ["a", None, 1, INT, ALWAYS]:
                self.not_so(is_change, change + (more,))
            self.not_so(is_change, list(change))
            self.not_so(is_change, (change,))

    def test_spoiled_and_anything(self):
        for change in CHANGES:
            for thing in spoiled(change):
                if thing != ("part table", "t", ("a", "a2"), "u"):
                    self.not_so(is_change, thing)
        for thing in ANYTHING:
            self.not_so(is_change, thing)

    def test_exchanged_items(self):
        for change in CHANGES:
            for at, kind in enumerate(KINDS[change[0]].split()):
                for thing in WRONG[kind] + WRONG["any"]:
                    self.not_so(is_change, change[:at + 1] + (thing,) + change[at + 2:])

    def test_names(self):
        for change in CHANGES:
            for at, part in enumerate(change):
                if at > 0 and isinstance(part, str):
                    for name in ["2x", "", "A", "abcdefghijklm"] + WORDS:
                        self.not_so(is_change, change[:at] + (name,) + change[at + 1:])
                    self.so(is_change, change[:at] + ("abcdefghijkl",) + change[at + 1:])

    def test_wrong(self):
        for thing in [("split column", "t", "a", 0, "b", "c"), ("split column", "t", "a", 1001, "b", "c"),
                      ("split column", "t", "a", None, "b", "c"), ("join columns", "t", "a", "b", 0, "c"),
                      ("join columns", "t", "a", "b", 1001, "c"), ("join columns", "t", "a", "b", -1, "c"),
                      ("move keys", "t", None), ("move keys", "t", True), ("drop column", "t", "a", False),
                      ("add column", "t", "a", INT, (1,)), ("add column", "t", "a", ("below", 0), 1),
                      ("part table", "t", (), "u"), ("part table", "t", ("b", "a"), "u"),
                      ("part table", "t", ("a", "a"), "u"), ("part table", "t", ("a", 5), "u"),
                      ("part table", "t", ("a", "key"), "u"), ("part table", "t", ["a"], "u"),
                      ("part table", "t", "a", "u"), ("part table", "t", "u", ("a",)), ("part table", "t", None, "u"),
                      ("add table", "t", ((("b", INT), ("a", INT)), ALWAYS)), ("add table", "t", ((), ("none", A))),
                      ("add table", "t", ((("a", INT),), ("none", ("via", "a", KEY)))), ("add table", "t", None),
                      ("split table", "t", KEY, "u", "v"), ("split table", "t", ("true", 1), "u", "v"),
                      ("change column", "t", "a", INT, ("over", 0), ("times", 2)),
                      ("change column", "t", "a", INT, ("over", 2), ("times", 1001)),
                      ("change column", "t", "a", INT, ("list", ()), ("times", 1)), ("call", "t", "u"),
                      ("table", "t", "u"), ("drop", "table", "t"), ("rename table", "t", "u"), ("drop  table", "t"),
                      (("drop table",), "t"), (None, "t"), ([], "t"), (1, "t"), (), "drop table", ("drop table", ["t"])]:
            self.not_so(is_change, thing)


def table(columns, check=ALWAYS):
    """Return a TABLE of columns told as a dict."""
    return (tuple(sorted(columns.items())), check)


def schema(tables, *rules):
    """Return a SCHEMA of tables told as a dict."""
    return (tuple(sorted(tables.items())), rules)


class Children(Checks):

    def leads(self, parent, change, child):
        self.assertTrue(is_schema(parent), parent)
        self.assertTrue(is_change(change), change)
        self.assertEqual(self.told(child_by, parent, change), child)
        self.assertTrue(is_schema(child), child)

    def test_call_table(self):
        here = table({"a": ("ref", "m"), "b": ("may", "m"), "c": ("ref", "x"), "d": INT}, ("none", B))
        there = table({"m": ("may", "m"), "x": ("may", "x"), "y": ("below", 5)}, ("none", ("col", "m")))
        parent = schema({"m": here, "x": there}, ("apart", "m", "x"), ("same", "m", "x"))
        for name, rules in [("b", (("apart", "b", "x"), ("same", "b", "x"))), ("z", (("apart", "x", "z"), ("same", "x", "z")))]:
            called = table({"a": ("ref", name), "b": ("may", name), "c": ("ref", "x"), "d": INT}, ("none", B))
            other = table({"m": ("may", name), "x": ("may", "x"), "y": ("below", 5)}, ("none", ("col", "m")))
            self.leads(parent, ("call table", "m", name), schema({name: called, "x": other}, *rules))
        self.leads(parent, ("call table", "m", "m"), parent)

    def test_call_table_orders_rules(self):
        tables = {name: table({}) for name in ("b", "c", "d")}
        parent = schema(tables, ("apart", "b", "c"), ("apart", "b", "d"), ("apart", "c", "d"), ("same", "b", "d"))
        child = schema({"c": table({}), "d": table({}), "z": table({})},
                       ("apart", "c", "d"), ("apart", "c", "z"), ("apart", "d", "z"), ("same", "d", "z"))
        self.leads(parent, ("call table", "b", "z"), child)
        child = schema({"a": table({}), "b": table({}), "c": table({})},
                       ("apart", "a", "b"), ("apart", "a", "c"), ("apart", "b", "c"), ("same", "a", "b"))
        self.leads(parent, ("call table", "d", "a"), child)

    def test_call_column(self):
        check = ("and", ("<", A, ("+", KEY, A)), ("=", B, A))
        parent = schema({"t": table({"a": INT, "b": ("ref", "t")}, check), "u": table({"a": INT}, ("none", A))})
        told = ("and", ("<", X, ("+", KEY, X)), ("=", B, X))
        child = schema({"t": table({"b": ("ref", "t"), "x": INT}, told), "u": table({"a": INT}, ("none", A))})
        self.leads(parent, ("call column", "t", "a", "x"), child)
        self.leads(parent, ("call column", "t", "a", "a"), parent)
        told = ("and", ("<", A, ("+", KEY, A)), ("=", ("col", "a0"), A))
        self.leads(parent, ("call column", "t", "b", "a0"),
                   schema({"t": table({"a": INT, "a0": ("ref", "t")}, told), "u": table({"a": INT}, ("none", A))}))

    def test_add_column(self):
        parent = schema({"t": table({"b": INT}, ("none", B)), "u": table({})})
        for name, sort, value in [("a", INT, 3), ("c", ("below", 4), 3), ("c", ("may", "u"), None), ("a", ("may", "t"), None)]:
            child = schema({"t": table({"b": INT, name: sort}, ("none", B)), "u": table({})})
            self.leads(parent, ("add column", "t", name, sort, value), child)

    def test_drop_column(self):
        parent = schema({"t": table({"a": ("below", 4), "b": INT, "c": ("may", "t")}, ("none", B)), "u": table({"a": INT})})
        child = schema({"t": table({"b": INT, "c": ("may", "t")}, ("none", B)), "u": table({"a": INT})})
        self.leads(parent, ("drop column", "t", "a", 3), child)
        child = schema({"t": table({"a": ("below", 4), "b": INT}, ("none", B)), "u": table({"a": INT})})
        self.leads(parent, ("drop column", "t", "c", None), child)

    def test_add_and_drop_table(self):
        parent = schema({"a": table({}), "c": table({"c": ("ref", "a")})}, ("apart", "a", "c"))
        for name in ["b", "d"]:
            told = table({"a": ("ref", name), "b": ("may", "a")}, ("<", A, KEY))
            child = schema({"a": table({}), "c": table({"c": ("ref", "a")}), name: told}, ("apart", "a", "c"))
            self.leads(parent, ("add table", name, told), child)
            self.leads(child, ("drop table", name), parent)
        self.leads(((), ()), ("add table", "a", ((), ALWAYS)), schema({"a": table({})}))

    def test_split_column(self):
        check = ("and", ("<", C, KEY), ("=", ("*", C, C), B))
        told = ("+", ("*", ("col", "y"), ("num", 4)), X)
        after = ("and", ("<", told, KEY), ("=", ("*", told, told), B))
        for sort, above in [(INT, INT), (("below", 12), ("below", 3)), (("below", 4), ("below", 1)),
                            (("below", 1000), ("below", 250))]:
            parent = schema({"t": table({"b": INT, "c": sort}, check), "u": table({"c": INT}, ("none", C))})
            child = schema({"t": table({"b": INT, "x": ("below", 4), "y": above}, after), "u": table({"c": INT}, ("none", C))})
            self.leads(parent, ("split column", "t", "c", 4, "y", "x"), child)
        parent = schema({"t": table({"c": ("below", 12)}, ("none", C))})
        check = ("none", ("+", ("*", C, ("num", 3)), A))
        self.leads(parent, ("split column", "t", "c", 3, "c", "a"),
                   schema({"t": table({"a": ("below", 3), "c": ("below", 4)}, check)}))

    def test_join_columns(self):
        check = ("and", ("<", A, B), ("=", ("+", A, C), KEY))
        high, low = ("by", ("over", 4), X), ("by", ("rest", 4), X)
        after = ("and", ("<", high, low), ("=", ("+", high, C), KEY))
        for above, sort in [(INT, INT), (("below", 3), ("below", 12)), (("below", 250), ("below", 1000))]:
            parent = schema({"t": table({"a": above, "b": ("below", 4), "c": INT}, check), "u": table({"a": INT}, ("none", A))})
            child = schema({"t": table({"c": INT, "x": sort}, after), "u": table({"a": INT}, ("none", A))})
            self.leads(parent, ("join columns", "t", "a", "b", 4, "x"), child)
        parent = schema({"t": table({"a": INT, "b": ("below", 4)}, ("<", A, B))})
        child = schema({"t": table({"b": INT}, ("<", ("by", ("over", 4), B), ("by", ("rest", 4), B)))})
        self.leads(parent, ("join columns", "t", "a", "b", 4, "b"), child)

    def test_change_column(self):
        check = ("and", ("<", A, KEY), ("none", B))
        parent = schema({"t": table({"a": INT, "b": INT}, check), "u": table({"a": INT}, ("none", A))})
        after = ("and", ("<", ("by", ("plus", -3), A), KEY), ("none", B))
        self.leads(parent, ("change column", "t", "a", INT, ("plus", 3), ("plus", -3)),
                   schema({"t": table({"a": INT, "b": INT}, after), "u": table({"a": INT}, ("none", A))}))
        parent = schema({"t": table({"a": ("below", 12), "b": INT}, ("none", B))})
        self.leads(parent, ("change column", "t", "a", ("below", 6), ("over", 2), ("times", 2)),
                   schema({"t": table({"a": ("below", 6), "b": INT}, ("none", B))}))
        swap = ("list", (1, 0))
        parent = schema({"t": table({"a": ("below", 2)}, ("<", A, ("num", 1)))})
        self.leads(parent, ("change column", "t", "a", ("below", 2), swap, swap),
                   schema({"t": table({"a": ("below", 2)}, ("<", ("by", swap, A), ("num", 1)))}))

    def test_move_keys(self):
        tables = {
            "t": table({"a": ("may", "t"), "b": INT, "c": ("ref", "u")}, ("or", ("<", KEY, A), ("=", B, C))),
            "u": table({"a": ("ref", "t"), "b": ("ref", "u"), "c": ("may", "t")}, ("and", ("<", KEY, A), ("=", B, C))),
            "v": table({"a": INT}, ("<", KEY, A)),
        }
        parent = schema(tables, ("same", "u", "v"))
        for many, back in [(100, ("plus", -100)), (-7, ("plus", 7)), (0, ("plus", 0))]:
            key, a, c = ("by", back, KEY), ("by", back, A), ("by", back, C)
            child = schema({
                "t": (tables["t"][0], ("or", ("<", key, a), ("=", B, C))),
                "u": (tables["u"][0], ("and", ("<", KEY, a), ("=", B, c))),
                "v": tables["v"],
            }, ("same", "u", "v"))
            self.leads(parent, ("move keys", "t", many), child)

    def test_split_and_join_tables(self):
        other = table({"a": INT})
        for check in [ALWAYS, ("none", B)]:
            told = table({"a": INT, "b": ("may", "w")}, check)
            parent = schema({"t": told, "w": other, "x": other}, ("same", "w", "x"))
            condition = ("<", A, ("num", 5))
            one, two = (told[0], ("and", check, condition)), (told[0], ("and", check, ("not", condition)))
            for u, v in [("u", "v"), ("z", "a"), ("t", "u"), ("a", "t")]:
                rule = ("apart", min(u, v), max(u, v))
                child = schema({u: one, v: two, "w": other, "x": other}, rule, ("same", "w", "x"))
                self.leads(parent, ("split table", "t", condition, u, v), child)
                self.leads(child, ("join tables", u, v, "t"), parent)
        parent = schema({"t": told, "w": other, "x": other}, ("apart", "w", "x"), ("same", "w", "x"))
        child = schema({"u": one, "v": two, "w": other, "x": other}, ("apart", "u", "v"), ("apart", "w", "x"), ("same", "w", "x"))
        self.leads(parent, ("split table", "t", condition, "u", "v"), child)
        self.leads(child, ("join tables", "u", "v", "t"), parent)

    def test_part_table(self):
        columns = {"a": INT, "b": ("may", "w"), "c": ("ref", "t"), "d": INT}
        some, rest = {"b": ("may", "w"), "d": INT}, {"a": INT, "c": ("ref", "t")}
        d = ("col", "d")
        for check, stays, goes in [
                (ALWAYS, ALWAYS, ALWAYS), (("none", A), ("none", A), ALWAYS), (("none", B), ALWAYS, ("none", B)),
                (("<", B, d), ALWAYS, ("<", B, d)), (("<", KEY, ("num", 3)), ("<", KEY, ("num", 3)), ALWAYS),
                (("and", ("none", A), ("none", B)), ("none", A), ("none", B)),
                (("and", ALWAYS, ("<", d, KEY)), ALWAYS, ("<", d, KEY)),
                (("and", ("none", KEY), ("<", d, B)), ("none", KEY), ("<", d, B)),
                (("and", ("none", B), ("none", d)), ALWAYS, ("and", ("none", B), ("none", d))),
                (("and", ("none", B), ("none", KEY)), ALWAYS, ("and", ("none", B), ("none", KEY))),
                (("and", ("none", A), ("none", KEY)), ("and", ("none", A), ("none", KEY)), ALWAYS),
                (("and", ("none", A), ("none", C)), ("and", ("none", A), ("none", C)), ALWAYS),
                (("or", ("none", B), ("none", d)), ALWAYS, ("or", ("none", B), ("none", d)))]:
            parent = schema({"t": table(columns, check), "w": table({})}, ("apart", "t", "w"))
            child = schema({"t": table(rest, stays), "u": table(some, goes), "w": table({})}, ("apart", "t", "w"), ("same", "t", "u"))
            self.leads(parent, ("part table", "t", ("b", "d"), "u"), child)
            child = schema({"a": table(some, goes), "t": table(rest, stays), "w": table({})}, ("apart", "t", "w"), ("same", "a", "t"))
            self.leads(parent, ("part table", "t", ("b", "d"), "a"), child)
        parent = schema({"t": table({"a": INT}, ("none", A))})
        self.leads(parent, ("part table", "t", ("a",), "u"), schema({"t": table({}), "u": table({"a": INT}, ("none", A))}, ("same", "t", "u")))

    def test_put_together(self):
        here, there = {"b": INT, "d": ("ref", "t")}, {"a": ("may", "t"), "c": INT}
        one, other = ("none", B), ("<", C, KEY)
        for check, more, after in [(one, other, ("and", one, other)), (ALWAYS, other, other), (one, ALWAYS, one),
                                   (ALWAYS, ALWAYS, ALWAYS)]:
            for name, rule in [("u", ("same", "t", "u")), ("s", ("same", "s", "t"))]:
                tables = {"t": table(here, check), name: table(there, more), "w": table({})}
                parent = schema(tables, ("apart", "t", "w"), rule, ("same", "t", "w"))
                child = schema({"t": table({**here, **there}, after), "w": table({})}, ("apart", "t", "w"), ("same", "t", "w"))
                self.leads(parent, ("put together", "t", name), child)


class Named(Checks):

    def test_named(self):
        for change, above, below in [
                (("call table", "t", "u"), ("t",), ("u",)), (("call column", "t", "a", "b"), ("t",), ("t",)),
                (("add column", "t", "a", ("may", "u"), None), ("t",), ("t",)), (("drop column", "t", "a", 1), ("t",), ("t",)),
                (("add table", "t", ((("a", ("ref", "u")),), ALWAYS)), (), ("t",)), (("drop table", "t"), ("t",), ()),
                (("split column", "t", "a", 1, "b", "c"), ("t",), ("t",)), (("join columns", "t", "a", "b", 1, "c"), ("t",), ("t",)),
                (("change column", "t", "a", INT, ("turned",), ("turned",)), ("t",), ("t",)),
                (("move keys", "t", 5), ("t",), ("t",)), (("split table", "t", ALWAYS, "u", "v"), ("t",), ("u", "v")),
                (("split table", "t", ALWAYS, "v", "u"), ("t",), ("u", "v")), (("split table", "t", ALWAYS, "t", "a"), ("t",), ("a", "t")),
                (("join tables", "u", "v", "t"), ("u", "v"), ("t",)), (("join tables", "v", "a", "v"), ("a", "v"), ("v",)),
                (("part table", "t", ("a",), "u"), ("t",), ("t", "u")), (("part table", "t", ("a",), "b"), ("t",), ("b", "t")),
                (("put together", "t", "u"), ("t", "u"), ("t",)), (("put together", "t", "a"), ("a", "t"), ("t",)),
                (("put together", "t", "t"), ("t",), ("t",)), (("split table", "t", ALWAYS, "u", "u"), ("t",), ("u",))]:
            self.assertEqual(self.told(named_tables, change), above, change)
            self.assertEqual(self.told(named_below, change), below, change)


if __name__ == "__main__":
    unittest.main()
