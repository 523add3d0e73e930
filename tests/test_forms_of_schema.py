"""[12]: the forms of a schema: ROWS, DATABASES, QUERIES, STATEMENTS, TRANSACTIONS, what FITS."""

import unittest

from everyversion.errors import NoCommand
from everyversion.forms import fits_row, fits_sort, is_condition_at, is_database, is_expression_at, is_query, is_row
from everyversion.forms import is_statement, is_transaction
from samples import ALWAYS, ANYTHING, BOOK, CONDITIONS, EXPRESSIONS, PAGES, SCHEMA, WHO, Checks, spoiled

KEY = ("key",)
AGE = ("col", "age")


class Rows(Checks):

    def test_rows(self):
        for thing in [(0, 0, 0), (900, None, None), (None, None, None), (-1, 10 ** 39, 5)]:
            self.so(is_row, SCHEMA, "book", thing)
        self.so(is_row, SCHEMA, "room", ())

    def test_none(self):
        for thing in [(1, 2), (1, 2, 3, 4), (), [1, 2, 3], (1, 2, True), (False, 2, 3), (1, "2", 3), (1, (2,), 3),
                      {0: 1, 1: 2, 2: 3}, "123", None, (1, 2, [3])]:
            self.not_so(is_row, SCHEMA, "book", thing)
        for thing in ANYTHING:
            self.not_so(is_row, SCHEMA, "book", thing)
            if thing != ():
                self.not_so(is_row, SCHEMA, "room", thing)

    def test_fits_row(self):
        for thing in [(0, 7, None), (499, -5, 10 ** 39)]:
            self.so(fits_row, SCHEMA, "book", thing)
        self.so(fits_row, SCHEMA, "person", (-(10 ** 39), None))
        self.so(fits_row, SCHEMA, "room", ())
        for thing in [(500, 7, None), (-1, 7, None), (None, 7, None), (0, None, None), (0, 7, True), (0, 7), [0, 7, 7],
                      (0, 7, 7, 7)]:
            self.not_so(fits_row, SCHEMA, "book", thing)
        self.not_so(fits_row, SCHEMA, "person", (None, None))
        for thing in ANYTHING:
            self.not_so(fits_row, SCHEMA, "book", thing)

    def test_fits_sort(self):
        for sort, thing in [(("int",), -(10 ** 39)), (("int",), 0), (("below", 1), 0), (("below", 1000), 999),
                            (("ref", "a"), -7), (("may", "a"), -7), (("may", "a"), None)]:
            self.so(fits_sort, sort, thing)
        for sort, thing in [(("int",), None), (("below", 1), 1), (("below", 1), -1), (("below", 1000), 1000),
                            (("below", 5), None), (("ref", "a"), None)]:
            self.not_so(fits_sort, sort, thing)
        for sort in [("int",), ("below", 1000), ("ref", "a"), ("may", "a")]:
            for thing in [True, False, "1", "", (), (1,), [], [1], {}, {1: 1}, NoCommand()]:
                self.not_so(fits_sort, sort, thing)


class Databases(Checks):

    def test_databases(self):
        for thing in [{"book": {}, "person": {}, "room": {}}, {"room": {}, "person": {}, "book": {}},
                      {"person": {3: (1, None), -2: (1, 99)}, "book": {10 ** 39: (499, 1, None)}, "room": {500: ()}}]:
            self.so(is_database, SCHEMA, thing)
        self.so(is_database, ((), ()), {})

    def test_tables(self):
        for thing in [{}, {"book": {}}, {"book": {}, "person": {}}, {"book": {}, "person": {}, "shop": {}},
                      {"book": {}, "person": {}, "room": {}, "shop": {}}, {"book": {}, "person": {}, 1: {}},
                      {"book": {}, "person": {}, "room": {}, None: {}}, [], None, "book", ("book", "person", "room"),
                      {"book": {}, "person": {}, "room": []}, {"book": {}, "person": {}, "room": None},
                      [("book", {}), ("person", {}), ("room", {})]]:
            self.not_so(is_database, SCHEMA, thing)

    def test_rows(self):
        for rows in [{True: (1, None)}, {False: (1, None)}, {"1": (1, None)}, {None: (1, None)}, {(1,): (1, None)},
                     {1: [1, None]}, {1: (1,)}, {1: (1, None, None)}, {1: (None, None)}, {1: (True, None)},
                     {1: (1, False)}, {1: None}, {1: {}}, {1: (1, None), 2: (1, "a")}, {"": (1, None), 2: (1, 1)},
                     [(1, None)], ((1, (1, None)),)]:
            self.not_so(is_database, SCHEMA, {"book": {}, "person": rows, "room": {}})

    def test_spoiled_and_anything(self):
        for thing in spoiled({"book": {7: (13, 4, 2)}, "person": {5: (30, 5), 8: (-1, 8)}, "room": {4: ()}}):
            self.not_so(is_database, SCHEMA, thing)
        for thing in ANYTHING:
            self.not_so(is_database, SCHEMA, thing)
        for thing in ANYTHING:
            if thing != {}:
                self.not_so(is_database, ((), ()), thing)


class At(Checks):

    def test_expressions_at(self):
        for table, thing in [("book", PAGES), ("book", WHO), ("book", ("via", "who", AGE)), ("room", KEY),
                             ("book", ("via", "who", ("via", "friend", ("via", "friend", AGE)))),
                             ("book", ("via", "room", KEY)), ("person", ("+", AGE, ("via", "friend", AGE))),
                             ("book", ("*", ("by", ("turned",), ("via", "who", AGE)), PAGES))]:
            self.so(is_expression_at, SCHEMA, table, thing)

    def test_no_expressions_at(self):
        for table, thing in [("book", AGE), ("person", PAGES), ("room", AGE), ("book", ("via", "who", PAGES)),
                             ("book", ("via", "pages", KEY)), ("person", ("via", "age", KEY)),
                             ("book", ("via", "shop", KEY)), ("person", ("via", "who", KEY)),
                             ("book", ("via", "room", AGE)), ("book", ("+", ("via", "who", AGE), AGE)),
                             ("book", ("+", AGE, ("via", "who", AGE))), ("book", ("via", "who", ("via", "who", AGE))),
                             ("book", ("by", ("turned",), AGE)), ("book", ("via", "who", ("-", AGE, PAGES))),
                             ("book", ("col", "true")), ("book", ("num", True)), ("book", ALWAYS)]:
            self.not_so(is_expression_at, SCHEMA, table, thing)

    def test_conditions_at(self):
        for table, thing in [("book", BOOK[1]), ("room", ALWAYS), ("book", ("<", ("via", "who", AGE), PAGES)),
                             ("person", ("not", ("or", ("none", AGE), ("=", KEY, ("via", "friend", KEY))))),
                             ("book", ("and", ALWAYS, ("none", ("via", "room", KEY))))]:
            self.so(is_condition_at, SCHEMA, table, thing)

    def test_no_conditions_at(self):
        for table, thing in [("person", BOOK[1]), ("book", ("<", ("via", "who", PAGES), PAGES)), ("book", PAGES),
                             ("book", ("none", ("via", "pages", KEY))), ("room", ("none", ("col", "room"))),
                             ("person", ("not", ("or", ("none", AGE), ("=", PAGES, ("via", "friend", KEY))))),
                             ("book", ("and", ("none", AGE), ALWAYS)), ("book", ("and", ALWAYS, ("none", AGE)))]:
            self.not_so(is_condition_at, SCHEMA, table, thing)

    def test_anything(self):
        for thing in ANYTHING:
            if thing not in (KEY, ("num", 1)):
                self.not_so(is_expression_at, SCHEMA, "book", thing)
            if thing != ALWAYS:
                self.not_so(is_condition_at, SCHEMA, "book", thing)
        schema = ((("t", ((("a", ("ref", "t")), ("b", ("may", "t")), ("c", ("int",)), ("num", ("int",)),
                           ("x", ("below", 3))), ALWAYS)),), ())
        for expression in EXPRESSIONS:
            self.so(is_expression_at, schema, "t", expression)
            for thing in spoiled(expression):
                self.not_so(is_expression_at, schema, "t", thing)
        for condition in CONDITIONS:
            self.so(is_condition_at, schema, "t", condition)
            for thing in spoiled(condition):
                self.not_so(is_condition_at, schema, "t", thing)


QUERIES = [
    ("rows", "book", ALWAYS, ()), ("rows", "book", ("none", WHO), (PAGES, KEY, ("via", "who", AGE))),
    ("rows", "room", ("<", KEY, ("num", 3)), (KEY, KEY)), ("count", "book", ("=", PAGES, ("via", "who", AGE))),
    ("count", "room", ALWAYS), ("total", "person", ALWAYS, ("via", "friend", AGE)),
    ("total", "book", ("none", WHO), PAGES),
]
STATEMENTS = [
    ("add", "book", 7, (900, None, 3)), ("add", "room", -(10 ** 39), ()), ("add", "person", 0, (None, None)),
    ("set", "book", ALWAYS, "pages", ("+", PAGES, ("via", "who", AGE))), ("set", "person", ("none", AGE), "age", KEY),
    ("take", "book", ("=", KEY, ("num", 7))), ("take", "room", ALWAYS),
    ("need", ("count", "book", ALWAYS), 1, None), ("need", ("count", "book", ALWAYS), None, None),
    ("need", ("total", "person", ALWAYS, AGE), -5, 5), ("need", ("total", "person", ALWAYS, AGE), None, 10 ** 39),
] + [("ask", query) for query in QUERIES]


class Queries(Checks):

    def test_queries(self):
        for thing in QUERIES:
            self.so(is_query, SCHEMA, thing)

    def test_none(self):
        for thing in [("rows", "book", ALWAYS), ("rows", "book", ALWAYS, (), ()), ("rows", "book", ALWAYS, [PAGES]),
                      ("rows", "book", ALWAYS, PAGES), ("rows", "book", ALWAYS, (PAGES, AGE)),
                      ("rows", "book", ALWAYS, (ALWAYS,)), ("rows", "book", ("none", AGE), ()),
                      ("rows", "shop", ALWAYS, ()), ("rows", None, ALWAYS, ()), ("count", "book"),
                      ("count", "book", ALWAYS, ()), ("count", "book", ALWAYS, PAGES), ("count", "shop", ALWAYS),
                      ("count", "book", PAGES), ("count", ("book",), ALWAYS), ("count", 0, ALWAYS),
                      ("total", "book", ALWAYS), ("total", "book", ALWAYS, AGE), ("total", "book", ALWAYS, (PAGES,)),
                      ("total", "book", ALWAYS, PAGES, PAGES), ("total", "book", ALWAYS, ALWAYS),
                      ("total", "person", ("none", PAGES), AGE), ("sum", "book", ALWAYS, PAGES), ("all", "book", ALWAYS),
                      ("book", "count", ALWAYS), ("ask", ("count", "book", ALWAYS)), ["count", "book", ALWAYS]]:
            self.not_so(is_query, SCHEMA, thing)

    def test_spoiled_and_anything(self):
        for query in QUERIES:
            for thing in spoiled(query):
                self.not_so(is_query, SCHEMA, thing)
        for thing in ANYTHING:
            self.not_so(is_query, SCHEMA, thing)
            self.not_so(is_query, ((), ()), thing)


class Statements(Checks):

    def test_statements(self):
        for thing in STATEMENTS:
            self.so(is_statement, SCHEMA, thing)

    def test_none(self):
        count = ("count", "book", ALWAYS)
        for thing in [("ask",), ("ask", count, count), ("ask", "book"), ("ask", None), ("ask", ("count", "a", ALWAYS)),
                      ("ask",) + count, ("add", "book", 7), ("add", "book", 7, (1, 2, 3), ()), ("add", "book", 7, ()),
                      ("add", "book", True, (1, 2, 3)), ("add", "book", None, (1, 2, 3)), ("add", "shop", 7, (1, 2, 3)),
                      ("add", "book", 7, [1, 2, 3]), ("add", "book", 7, (1, 2)), ("add", "room", 7, (1,)),
                      ("add", "book", 7, (1, 2, False)), ("set", "book", ALWAYS, "pages"), ("set", "book", ALWAYS),
                      ("set", "book", ALWAYS, "age", PAGES), ("set", "book", ALWAYS, "pages", AGE),
                      ("set", "book", ("none", AGE), "pages", PAGES), ("set", "shop", ALWAYS, "pages", PAGES),
                      ("set", "book", ALWAYS, "pages", PAGES, PAGES), ("set", "book", ALWAYS, "pages", ALWAYS),
                      ("set", "book", ALWAYS, "pages", None), ("set", "book", ALWAYS, None, PAGES),
                      ("set", "book", ALWAYS, ("pages",), PAGES), ("set", "book", ALWAYS, [], PAGES),
                      ("set", "book", ALWAYS, 0, PAGES), ("take", "book"), ("take", "book", ALWAYS, ALWAYS),
                      ("take", "book", ("none", AGE)), ("take", "shop", ALWAYS), ("take", "book", KEY),
                      ("need", count, 1), ("need", count, 1, 2, 3), ("need", count), ("need", count, True, None),
                      ("need", count, None, False), ("need", count, "1", None), ("need", count, None, (1,)),
                      ("need", ("rows", "book", ALWAYS, ()), 1, None), ("need", 5, 1, None), ("need", "book", 1, None),
                      ("need", ("total", "book", ALWAYS, AGE), 1, 1), ("give", "book", ALWAYS), ("take", [], ALWAYS),
                      ("put", "book", ALWAYS, "pages", PAGES), list(STATEMENTS[0]), count]:
            self.not_so(is_statement, SCHEMA, thing)

    def test_spoiled_and_anything(self):
        for statement in STATEMENTS:
            for thing in spoiled(statement):
                self.not_so(is_statement, SCHEMA, thing)
        for thing in ANYTHING:
            self.not_so(is_statement, SCHEMA, thing)
            self.not_so(is_statement, ((), ()), thing)

    def test_transactions(self):
        for thing in [(), tuple(STATEMENTS), (STATEMENTS[0],) * 20]:
            self.so(is_transaction, SCHEMA, thing)
        for thing in [STATEMENTS, [], None, "", {}, 0, STATEMENTS[0], tuple(STATEMENTS) + (None,), (("ask",),), ((),),
                      (STATEMENTS[0], STATEMENTS[1] + (1,)), (list(STATEMENTS[0]),), ("take", "book", ALWAYS)]:
            self.not_so(is_transaction, SCHEMA, thing)
        for thing in ANYTHING:
            if thing != ():
                self.not_so(is_transaction, SCHEMA, thing)


if __name__ == "__main__":
    unittest.main()
