"""[17] and [18]: what is shown, and that it is read back as it was."""

import unittest

from everyversion.reader import read_database, read_edges, read_schema, read_transaction
from everyversion.shower import show_answer, show_change, show_condition, show_database, show_edges, show_expression
from everyversion.shower import show_schema, show_transaction
from samples import ALWAYS, BOOK, SCHEMA, Checks, turned_about
from texts import Teller

KEY = ("key",)
A, B = ("col", "a"), ("col", "b")
INT = ("int",)


class Shown(Checks):

    def shows(self, function, *arguments):
        *arguments, text = arguments
        self.assertEqual(self.told(function, *arguments), text)

    def test_schemas(self):
        self.shows(show_schema, ((), ()), "")
        self.shows(show_schema, ((("a", ((), ALWAYS)),), ()), "table a")
        self.shows(show_schema, SCHEMA, "\n".join([
            "table book", "column pages below 500", "column room ref room", "column who may person",
            "check not = pages 13", "table person", "column age int", "column friend may person", "table room",
            "check < key 100", "apart book person", "apart person room", "same book room"]))

    def test_transactions(self):
        self.shows(show_transaction, (), "")
        count = ("count", "book", ("none", ("col", "who")))
        for statement, text in [
                (("ask", ("rows", "t", ALWAYS, ())), "ask rows t true"),
                (("ask", ("rows", "t", ("none", A), (A, ("+", KEY, B), ("num", -1)))), "ask rows t none a a + key b -1"),
                (("ask", count), "ask count book none who"), (("ask", ("total", "t", ALWAYS, A)), "ask total t true a"),
                (("add", "t", -7, (1, None, -3)), "add t -7 1 none -3"), (("add", "t", 0, ()), "add t 0"),
                (("set", "t", ("=", KEY, ("num", 7)), "a", ("via", "b", KEY)), "set t = key 7 a via b key"),
                (("take", "t", ("not", ALWAYS)), "take t not true"),
                (("need", count, 1, None), "need count book none who 1 none"),
                (("need", ("total", "t", ALWAYS, A), None, -5), "need total t true a none -5")]:
            self.shows(show_transaction, (statement,), text)
            self.shows(show_transaction, (statement, statement), text + "\n" + text)

    def test_changes_and_edges(self):
        self.shows(show_edges, (), "")
        for change, text in [
                (("call table", "t", "u"), "call table t u"), (("call column", "t", "a", "b"), "call column t a b"),
                (("add column", "t", "a", ("may", "u"), None), "add column t a may u none"),
                (("add column", "t", "a", INT, -5), "add column t a int -5"),
                (("drop column", "t", "a", 5), "drop column t a 5"), (("drop column", "t", "a", None), "drop column t a none"),
                (("add table", "t", ((), ALWAYS)), "add table t check true"),
                (("add table", "book", BOOK),
                 "add table book column pages below 500 column room ref room column who may person check not = pages 13"),
                (("drop table", "t"), "drop table t"), (("split column", "t", "a", 12, "c", "b"), "split column t a 12 c b"),
                (("join columns", "t", "c", "b", 12, "a"), "join columns t c b 12 a"),
                (("change column", "t", "a", ("below", 2), ("list", (1, 0)), ("turned",)),
                 "change column t a below 2 list 1 0 end turned"),
                (("change column", "t", "a", INT, ("plus", -1), ("times", 3)), "change column t a int plus -1 times 3"),
                (("move keys", "t", -100), "move keys t -100"),
                (("split table", "t", ("<", A, KEY), "v", "u"), "split table t < a key v u"),
                (("join tables", "v", "u", "t"), "join tables v u t"),
                (("part table", "t", ("a", "b"), "u"), "part table t u a b"), (("put together", "t", "u"), "put together t u")]:
            self.shows(show_change, change, text)
            self.shows(show_edges, ((0, change),), "from 0 " + text)
            self.shows(show_edges, ((0, change), (1, change)), f"from 0 {text}\nfrom 1 {text}")

    def test_databases(self):
        self.shows(show_database, ((), ()), {}, "")
        self.shows(show_database, SCHEMA, {"room": {}, "book": {}, "person": {}}, "")
        database = {"person": {5: (30, 5), -8: (-1, None), 10: (0, 0)}, "room": {7: ()}, "book": {7: (13, 4, None)}}
        text = "row book 7 13 4 none\nrow person -8 -1 none\nrow person 5 30 5\nrow person 10 0 0\nrow room 7"
        self.shows(show_database, SCHEMA, database, text)
        self.shows(show_database, SCHEMA, turned_about(database), text)

    def test_expressions(self):
        for expression, text in [
                (("num", 0), "0"), (("num", -12), "-12"), (KEY, "key"), (A, "a"), (("via", "a", ("via", "b", KEY)), "via a via b key"),
                (("+", A, B), "+ a b"), (("-", B, A), "- b a"), (("*", ("-", A, B), ("+", KEY, ("num", 5))), "* - a b + key 5"),
                (("by", ("plus", -3), A), "by plus -3 a"), (("by", ("turned",), A), "by turned a"),
                (("by", ("times", 3), A), "by times 3 a"), (("by", ("over", 3), A), "by over 3 a"),
                (("by", ("rest", 3), ("by", ("list", (1, -2)), B)), "by rest 3 by list 1 -2 end b")]:
            self.shows(show_expression, expression, text)

    def test_conditions(self):
        for condition, text in [
                (ALWAYS, "true"), (("<", A, B), "< a b"), (("=", KEY, ("num", 1)), "= key 1"), (("none", A), "none a"),
                (("and", ("or", ("none", A), ALWAYS), ("not", ("<", B, A))), "and or none a true not < b a"),
                (("or", ALWAYS, ("and", ALWAYS, ("none", B))), "or true and true none b")]:
            self.shows(show_condition, condition, text)

    def test_answers(self):
        for answer, text in [
                (0, "0"), (-12, "-12"), (10 ** 39, "1" + "0" * 39), ([], ""), ([(7, ())], "7:"), ([(-7, (1,))], "-7: 1"),
                ([(3, (250, None)), (7, ())], "3: 250 none | 7:"), ([(1, (None,)), (2, (-5,)), (3, (0,))], "1: none | 2: -5 | 3: 0"),
                ([(1, ()), (2, ())], "1: | 2:")]:
            self.shows(show_answer, answer, text)

    def test_deep(self):
        deep = ALWAYS
        for _ in range(700):
            deep = ("not", deep)
        self.assertEqual(show_condition(deep), "not " * 700 + "true")


class ReadBack(Checks):

    def test_at_random(self):
        statements = 0
        for seed in range(500):
            teller = Teller(seed)
            schema, edges = teller.schema(), teller.edges()
            transaction, database = teller.transaction(schema), teller.database(schema)
            texts = [show_schema(schema), show_transaction(transaction), show_edges(edges), show_database(schema, database)]
            self.assertEqual(read_schema(texts[0]), schema)
            self.assertEqual(read_transaction(schema, texts[1]), transaction)
            self.assertEqual(read_edges(texts[2]), edges)
            self.assertEqual(read_database(schema, texts[3]), database)
            statements += len(transaction)
            for text in texts:
                self.assertNotIn("  ", text)
                self.assertEqual([line for line in text.split("\n") if line != line.strip() or not line], [] if text else [""])
        self.assertGreater(statements, 500)


if __name__ == "__main__":
    unittest.main()
