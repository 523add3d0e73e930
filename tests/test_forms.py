"""[12]: the forms that need no schema, and SCHEMAS."""

import unittest

from everyversion.errors import NoCommand
from everyversion.forms import is_condition, is_expression, is_integer, is_name, is_schema, is_sort, is_table, is_way
from samples import ALWAYS, ANYTHING, BOOK, CONDITIONS, EXPRESSIONS, PERSON, ROOM, SCHEMA, SORTS, WAYS, WORDS, Checks
from samples import spoiled


class Integers(Checks):

    def test_integers(self):
        for thing in [0, 1, -1, 10 ** 39, -(10 ** 39), 10 ** 120]:
            self.so(is_integer, thing)

    def test_none(self):
        for thing in [True, False, None, "1", "", (), [], (1,), [1], {}, {1: 1}, NoCommand()]:
            self.not_so(is_integer, thing)


class Names(Checks):

    def test_names(self):
        for thing in ["a", "z", "a0", "z9", "book2", "abcdefghijkl", "a12345678901", "zz", "num", "col", "intt", "i"]:
            self.so(is_name, thing)

    def test_none(self):
        for thing in ["", "abcdefghijklm", "A", "aB", "2book", "0", "a b", "a_b", "_a", "a-", "a\n", "\na", "a.", " a",
                      "a ", "`", "{", "a`", "a{", "a/", "a:", "\u00e9", "a\u0663", "a\u00b2"]:
            self.not_so(is_name, thing)

    def test_words_are_none(self):
        self.assertEqual(len(WORDS), 47)
        for word in WORDS:
            self.not_so(is_name, word)
            self.so(is_name, word + "z")

    def test_other_kinds(self):
        for thing in [None, True, 1, (), ("a",), ["a"], {"a": 1}, NoCommand()]:
            self.not_so(is_name, thing)


class Sorts(Checks):

    def test_sorts(self):
        for thing in SORTS + [("below", 2), ("below", 999), ("ref", "b2")]:
            self.so(is_sort, thing)

    def test_none(self):
        for thing in [("below", 0), ("below", 1001), ("below", -1), ("below", True), ("below", "5"), ("below",),
                      ("below", 5, 5), ("int", 1), ("int", None), ("ref",), ("ref", ""), ("ref", "table"),
                      ("ref", "2x"), ("ref", None), ("ref", 5), ("may", "abcdefghijklm"), ("may", ("a",)),
                      ("may", "a", "b"), ("num",), ("true",), ("to", "a"), ("in", 5), (("int",),), "int", ["int"]]:
            self.not_so(is_sort, thing)

    def test_spoiled_and_anything(self):
        for sort in SORTS:
            for thing in spoiled(sort):
                self.not_so(is_sort, thing)
        for thing in ANYTHING:
            if thing != ("int",):
                self.not_so(is_sort, thing)


class Ways(Checks):

    def test_ways(self):
        for thing in WAYS:
            self.so(is_way, thing)

    def test_none(self):
        for word in ["times", "over", "rest"]:
            for many in [0, 1001, -1, -1000, True, None, "1", (1,), 10 ** 39]:
                self.not_so(is_way, (word, many))
            self.not_so(is_way, (word,))
        for thing in [("list", ()), ("list", tuple(range(1001))), ("list", (None,)), ("list", (1, True)),
                      ("list", [1]), ("list", 1), ("list",), ("list", (1,), (2,)), ("list", {1: 1}), ("plus",),
                      ("plus", None), ("plus", True), ("plus", 1, 1), ("plus", (1,)), ("turned", 1), ("turned", None),
                      ("minus", 1), ("key",), "turned", ["turned"], (("turned",),)]:
            self.not_so(is_way, thing)

    def test_spoiled_and_anything(self):
        for way in WAYS:
            for thing in spoiled(way[:1] + ((1, 2),) if way[0] == "list" else way):
                self.not_so(is_way, thing)
        for thing in ANYTHING:
            self.not_so(is_way, thing)


class Expressions(Checks):

    def test_expressions(self):
        for thing in EXPRESSIONS:
            self.so(is_expression, thing)
        for way in WAYS:
            self.so(is_expression, ("by", way, ("key",)))

    def test_none(self):
        key = ("key",)
        for thing in [("num",), ("num", 1, 1), ("num", None), ("num", True), ("num", "1"), ("key", 1), ("col",),
                      ("col", "key"), ("col", ""), ("col", 1), ("col", "a", "b"), ("via", "a"), ("via", "via", key),
                      ("via", key, "a"), ("via", "a", key, key), ("via", 1, key), ("+", key), ("+", key, key, key),
                      ("-", key), ("*", key), ("*", key, 5), ("+", 5, key), ("-", key, key, key), ("/", key, key),
                      ("by", ("turned",)), ("by", ("over", 0), key), ("by", key, ("turned",)), ("by", "turned", key),
                      ("by", ("turned",), key, key), ("+", key, ("true",)), ("+", ("true",), key),
                      ("via", "a", ("true",)), ("by", ("turned",), ("true",)), ("none", key), ("<", key, key),
                      ("*", key, ("+", key, ("-", key, ("num", True)))), "key", 1, ["key"]]:
            self.not_so(is_expression, thing)
        for thing in CONDITIONS:
            self.not_so(is_expression, thing)

    def test_spoiled_and_anything(self):
        for expression in EXPRESSIONS:
            for thing in spoiled(expression):
                self.not_so(is_expression, thing)
        for thing in ANYTHING:
            if thing not in (("key",), ("num", 1)):
                self.not_so(is_expression, thing)

    def test_deep(self):
        thing = ("key",)
        for _ in range(400):
            thing = ("+", ("num", 1), thing)
        self.assertIs(is_expression(thing), True)
        self.assertIs(is_expression(("by", ("turned",), ("-", thing, 1))), False)


class Conditions(Checks):

    def test_conditions(self):
        for thing in CONDITIONS:
            self.so(is_condition, thing)

    def test_none(self):
        key = ("key",)
        for thing in [("true", 1), ("false",), ("<", key), ("<", key, key, key), ("=", key), ("=", key, key, key),
                      (">", key, key), ("none",), ("none", key, key), ("none", ALWAYS), ("and", ALWAYS),
                      ("and", ALWAYS, ALWAYS, ALWAYS), ("or", ALWAYS), ("or", ALWAYS, key), ("or", key, ALWAYS),
                      ("and", key, ALWAYS), ("and", ALWAYS, key), ("not",), ("not", key), ("not", ALWAYS, ALWAYS),
                      ("<", ALWAYS, key), ("=", key, ALWAYS), ("not", True), ("and", True, ALWAYS), True, "true",
                      ["true"], (("true",),), ("not", ("or", ALWAYS, ("=", key, ("num", True))))]:
            self.not_so(is_condition, thing)
        for thing in EXPRESSIONS:
            self.not_so(is_condition, thing)

    def test_spoiled_and_anything(self):
        for condition in CONDITIONS:
            for thing in spoiled(condition):
                self.not_so(is_condition, thing)
        for thing in ANYTHING:
            if thing != ("true",):
                self.not_so(is_condition, thing)

    def test_deep(self):
        thing = ("true",)
        for _ in range(400):
            thing = ("not", thing)
        self.assertIs(is_condition(thing), True)
        self.assertIs(is_condition(("and", ("not", thing), ("key",))), False)


class Tables(Checks):

    def test_tables(self):
        for thing in [BOOK, PERSON, ROOM, ((), ALWAYS), ((), ("none", ("key",))), ((("a", ("ref", "far")),), ALWAYS),
                      ((("a", ("int",)), ("a2", ("int",)), ("b", ("int",))), ("<", ("col", "b"), ("col", "a2")))]:
            self.so(is_table, thing)

    def test_columns(self):
        whole = ("int",)
        for columns in [(("b", whole), ("a", whole)), (("a", whole), ("a", whole)), (("a", whole), ("a", ("ref", "b"))),
                        (("int", whole),), (("a", ("below", 0)),), (("a", whole, whole),), (("a",),), ("a", whole),
                        ["a"], [("a", whole)], None, "ab", {"a": whole}, ((whole, "a"),), (("a", None),),
                        (("a", whole), ["b", whole]), (("b", whole), ("c", whole), ("a", whole)), ("ab",)]:
            self.not_so(is_table, (columns, ALWAYS))

    def test_check(self):
        columns = (("a", ("may", "t")), ("b", ("int",)))
        for check in [("none", ("col", "c")), ("none", ("via", "a", ("key",))), ("none", ("col", "int")), ("key",),
                      ("not", ("<", ("num", 1), ("+", ("key",), ("via", "a", ("col", "b"))))), None, True, "true",
                      ("and", ALWAYS, ("=", ("col", "b"), ("by", ("turned",), ("col", "t")))), ["true"]]:
            self.not_so(is_table, (columns, check))

    def test_items(self):
        for thing in [((),), ((), ALWAYS, ALWAYS), [(), ALWAYS], (ALWAYS, ())]:
            self.not_so(is_table, thing)

    def test_spoiled_and_anything(self):
        for thing in spoiled(BOOK) + spoiled(PERSON):
            self.not_so(is_table, thing)
        for thing in ANYTHING:
            if thing != ((), ("true",)):
                self.not_so(is_table, thing)


class Schemas(Checks):

    def test_schemas(self):
        for thing in [SCHEMA, ((), ()), (SCHEMA[0], ()), (SCHEMA[0], SCHEMA[1][1:]), ((("room", ROOM),), ())]:
            self.so(is_schema, thing)

    def test_tables(self):
        room, person = ("room", ROOM), ("person", PERSON)
        for tables in [(room, person), (room, room), (person, room, room), (("table", ROOM),), (("book", BOOK),),
                       (("book", BOOK), room), (("book", BOOK), person), (("a", ((("b", ("may", "c")),), ALWAYS)),),
                       (room + (1,),), (("room",),), [room], None, {"room": ROOM}, (("room", None),), room,
                       (("b", ROOM), ("c", ROOM), ("a", ROOM))]:
            self.not_so(is_schema, (tables, ()))

    def test_rules(self):
        good = [("apart", "book", "person"), ("apart", "book", "room"), ("same", "book", "person")]
        self.so(is_schema, (SCHEMA[0], tuple(good)))
        for rules in [good[::-1], [good[1], good[0]], [good[0], good[0]], [good[2], good[0]],
                      [("apart", "person", "book")], [("same", "room", "room")], [("apart", "book", "shop")],
                      [("same", "able", "book")], [("beside", "book", "person")], [("apart", "book")],
                      [("apart", "book", "person", "room")], [["apart", "book", "person"]], [None], [("apart", 1, 2)],
                      [("apart", [], {})], [([], "book", "person")], [("ref", "book", "person")], ["apa"]]:
            self.not_so(is_schema, (SCHEMA[0], tuple(rules)))
        for rules in [None, [], good, {}, "", "apart", ("apart", "book", "person")]:
            self.not_so(is_schema, (SCHEMA[0], rules))

    def test_items(self):
        for thing in [SCHEMA[:1], SCHEMA + ((),), list(SCHEMA), SCHEMA[::-1]]:
            self.not_so(is_schema, thing)

    def test_spoiled_and_anything(self):
        for thing in spoiled(SCHEMA):
            self.not_so(is_schema, thing)
        for thing in ANYTHING:
            if thing != ((), ()):
                self.not_so(is_schema, thing)


if __name__ == "__main__":
    unittest.main()
