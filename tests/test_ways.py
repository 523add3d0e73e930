"""[13] and [14]: schemas looked into, WAYS, EXPRESSIONS and CONDITIONS."""

import unittest

from everyversion.ways import both, columns_in, columns_of, has_column, index_of, led, parts_many, put_in, refs_to
from everyversion.ways import sort_of, table_of, tables_of, with_table, without_table
from samples import ALWAYS, BOOK, CONDITIONS, EXPRESSIONS, PERSON, ROOM, SCHEMA, Checks

KEY = ("key",)
A, B, C = ("col", "a"), ("col", "b"), ("col", "c")


class Schemas(Checks):

    def test_tables(self):
        self.assertEqual(self.told(tables_of, SCHEMA), ("book", "person", "room"))
        self.assertEqual(self.told(tables_of, ((), ())), ())
        self.assertEqual(self.told(table_of, SCHEMA, "book"), BOOK)
        self.assertEqual(self.told(table_of, SCHEMA, "room"), ROOM)

    def test_columns(self):
        self.assertEqual(self.told(columns_of, SCHEMA, "book"), ("pages", "room", "who"))
        self.assertEqual(self.told(columns_of, SCHEMA, "room"), ())
        self.assertEqual(self.told(sort_of, SCHEMA, "book", "pages"), ("below", 500))
        self.assertEqual(self.told(sort_of, SCHEMA, "book", "who"), ("may", "person"))
        self.assertEqual(self.told(sort_of, SCHEMA, "person", "age"), ("int",))
        self.assertEqual([index_of(SCHEMA, "book", name) for name in ("pages", "room", "who")], [0, 1, 2])
        self.assertEqual(self.told(index_of, SCHEMA, "person", "friend"), 1)

    def test_has_column(self):
        self.so(has_column, SCHEMA, "book", "room")
        self.so(has_column, SCHEMA, "person", "age")
        for table, column in [("book", "age"), ("person", "room"), ("room", "pages"), ("shop", "pages"),
                              ("pages", "book"), ("shop", "shop"), ("book", "book")]:
            self.not_so(has_column, SCHEMA, table, column)
        self.not_so(has_column, ((), ()), "a", "a")

    def test_refs_to(self):
        self.assertEqual(self.told(refs_to, SCHEMA, "person"), (("book", "who"), ("person", "friend")))
        self.assertEqual(self.told(refs_to, SCHEMA, "room"), (("book", "room"),))
        self.assertEqual(self.told(refs_to, SCHEMA, "book"), ())
        many = ((("below", ((("c", ("ref", "b")), ("d", ("int",)), ("e", ("may", "b"))), ALWAYS)),
                 ("c", ((("a", ("may", "b")), ("b", ("ref", "c"))), ALWAYS))), ())
        self.assertEqual(self.told(refs_to, many, "b"), (("below", "c"), ("below", "e"), ("c", "a")))
        self.assertEqual(self.told(refs_to, many, "c"), (("c", "b"),))

    def test_with_table(self):
        for name, names in [("able", ("able", "book", "person", "room")), ("shop", ("book", "person", "room", "shop")),
                            ("box", ("book", "box", "person", "room"))]:
            made = self.told(with_table, SCHEMA, name, PERSON)
            self.assertEqual((tables_of(made), table_of(made, name)), (names, PERSON))
            self.assertEqual((made[1], table_of(made, "book"), table_of(made, "room")), (SCHEMA[1], BOOK, ROOM))
        made = self.told(with_table, SCHEMA, "book", ROOM)
        self.assertEqual(made, ((("book", ROOM), ("person", PERSON), ("room", ROOM)), SCHEMA[1]))
        self.assertEqual(self.told(with_table, ((), ()), "a", BOOK), ((("a", BOOK),), ()))
        self.assertEqual(self.told(with_table, SCHEMA, "person", PERSON), SCHEMA)

    def test_without_table(self):
        made = self.told(without_table, SCHEMA, "person")
        self.assertEqual(made, ((("book", BOOK), ("room", ROOM)), SCHEMA[1]))
        self.assertEqual(self.told(without_table, ((("a", ROOM),), ()), "a"), ((), ()))


class Ways(Checks):

    def test_led(self):
        far = 10 ** 39
        for way, x, y in [
                (("plus", 3), -5, -2), (("plus", -3), 2, -1), (("plus", 0), far, far), (("turned",), 5, -5),
                (("turned",), -5, 5), (("turned",), 0, 0), (("times", 7), -3, -21), (("times", 1), 8, 8),
                (("times", 1000), far, 1000 * far), (("over", 3), 7, 2), (("over", 3), 6, 2), (("over", 3), -1, -1),
                (("over", 3), -3, -1), (("over", 3), -4, -2), (("over", 1), -9, -9), (("over", 10), far, far // 10),
                (("rest", 3), 7, 1), (("rest", 3), 6, 0), (("rest", 3), -1, 2), (("rest", 3), -3, 0),
                (("rest", 1), -9, 0), (("rest", 1000), 999, 999), (("rest", 1000), 1000, 0)]:
            self.assertEqual(self.told(led, way, x), y, (way, x))

    def test_lists(self):
        way = ("list", (7, -8, 0))
        for x, y in [(0, 7), (1, -8), (2, 0), (3, None), (-1, None), (-3, None), (10 ** 39, None), (-(10 ** 39), None)]:
            self.assertEqual(self.told(led, way, x), y, x)
        self.assertEqual(led(("list", tuple(range(1000))), 999), 999)


class Things(Checks):

    def test_columns_in(self):
        for thing, columns in [
                (KEY, ()), (("num", 3), ()), (ALWAYS, ()), (A, ("a",)), (("via", "b", A), ("b",)), (("+", B, A), ("a", "b")),
                (("+", A, ("*", A, A)), ("a",)), (("by", ("list", (1,)), C), ("c",)), (("none", ("via", "b", A)), ("b",)),
                (("and", ("none", C), ("or", ("<", A, KEY), ("=", ("num", 1), B))), ("a", "b", "c")),
                (("not", ("none", ("-", ("via", "c", ("via", "a", B)), A))), ("a", "c")),
                (("via", "a", ("+", A, B)), ("a",)), (("-", ("num", 1), ("via", "z", ("via", "y", C))), ("z",))]:
            self.assertEqual(self.told(columns_in, thing), columns, thing)

    def test_parts_many(self):
        for thing, many in [(KEY, 1), (("num", 3), 1), (ALWAYS, 1), (A, 1), (("via", "b", A), 2), (("+", B, A), 3),
                            (("by", ("list", (1, 2)), C), 2), (("none", ("via", "b", A)), 3), (("not", ALWAYS), 2),
                            (("and", ("none", C), ("or", ("<", A, KEY), ALWAYS)), 8), (BOOK[1], 4),
                            (("*", ("-", A, B), ("by", ("turned",), ("via", "a", ("via", "b", KEY)))), 8)]:
            self.assertEqual(self.told(parts_many, thing), many, thing)

    def test_put_in(self):
        new = ("by", ("plus", 1), B)
        for thing, columns, key, made in [
                (KEY, {}, A, A), (KEY, {"key": B}, KEY, KEY), (A, {}, C, A), (A, {"a": new}, KEY, new),
                (A, {"b": new}, B, A), (("num", 3), {"num": A, "a": A}, A, ("num", 3)), (ALWAYS, {"a": B}, B, ALWAYS),
                (("+", A, B), {"a": B, "b": A}, KEY, ("+", B, A)), (("-", KEY, A), {"a": KEY}, A, ("-", A, KEY)),
                (("by", ("list", (3, 4)), A), {"a": KEY}, B, ("by", ("list", (3, 4)), KEY)),
                (("not", ("none", A)), {"a": ("+", A, A)}, B, ("not", ("none", ("+", A, A)))),
                (("and", ("<", A, KEY), ("or", ("=", B, C), ALWAYS)), {"a": C, "c": ("num", 0)}, new,
                 ("and", ("<", C, new), ("or", ("=", B, ("num", 0)), ALWAYS))),
                (("*", ("-", ("*", A, B), C), ("+", KEY, A)), {"a": ("num", 1), "b": ("num", 2), "c": ("num", 3)}, B,
                 ("*", ("-", ("*", ("num", 1), ("num", 2)), ("num", 3)), ("+", B, ("num", 1))))]:
            self.assertEqual(self.told(put_in, thing, columns, key), made, thing)

    def test_put_in_nothing(self):
        for thing in CONDITIONS + EXPRESSIONS:
            if "via" not in repr(thing):
                self.assertEqual(self.told(put_in, thing, {"other": A}, KEY), thing)

    def test_both(self):
        one, other = ("none", A), ("not", ALWAYS)
        self.assertEqual(self.told(both, one, other), ("and", one, other))
        self.assertEqual(self.told(both, other, one), ("and", other, one))
        self.assertEqual(self.told(both, ALWAYS, one), one)
        self.assertEqual(self.told(both, one, ALWAYS), one)
        self.assertEqual(self.told(both, ALWAYS, ALWAYS), ALWAYS)
        self.assertEqual(self.told(both, one, one), ("and", one, one))

    def test_deep(self):
        deep = A
        for _ in range(400):
            deep = ("+", deep, KEY)
        self.assertEqual((columns_in(deep), parts_many(deep)), (("a",), 801))
        self.assertEqual(parts_many(put_in(deep, {"a": ("+", B, B)}, KEY)), 803)


if __name__ == "__main__":
    unittest.main()
