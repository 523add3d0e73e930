"""[16]: TRANSACTIONS, edges and DATABASES read from texts."""

import unittest

from everyversion.changes import is_change
from everyversion.errors import NoText
from everyversion.forms import is_database, is_transaction
from everyversion.reader import read_database, read_edges, read_transaction
from everyversion.shower import show_database, show_edges, show_transaction
from samples import ALWAYS, ANYTHING, SCHEMA, Reading
from texts import Teller, normal

KEY = ("key",)
AGE, PAGES, WHO = ("col", "age"), ("col", "pages"), ("col", "who")
INT = ("int",)


class Transactions(Reading):

    def reads(self, text, *statements):
        self.assertEqual(self.told(read_transaction, SCHEMA, text), statements, text)

    def expression(self, words, expression):
        self.reads(f"ask total book true {words}", ("ask", ("total", "book", ALWAYS, expression)))
        self.reads(f"set book true pages {words}", ("set", "book", ALWAYS, "pages", expression))

    def condition(self, words, condition):
        self.reads(f"take book {words}", ("take", "book", condition))
        self.reads(f"ask count book {words}", ("ask", ("count", "book", condition)))

    def test_statements(self):
        count, total = ("count", "book", ALWAYS), ("total", "person", ("none", AGE), AGE)
        for text, statement in [
                ("ask rows book true", ("ask", ("rows", "book", ALWAYS, ()))),
                ("ask rows book none who pages", ("ask", ("rows", "book", ("none", WHO), (PAGES,)))),
                ("ask rows book true - pages 1 key -3",
                 ("ask", ("rows", "book", ALWAYS, (("-", PAGES, ("num", 1)), KEY, ("num", -3))))),
                ("ask count book true", ("ask", count)), ("ask total person none age age", ("ask", total)),
                ("add book 7 900 3 none", ("add", "book", 7, (900, 3, None))), ("add room -5", ("add", "room", -5, ())),
                ("add book 0 none none none", ("add", "book", 0, (None, None, None))),
                ("set book none who pages 5", ("set", "book", ("none", WHO), "pages", ("num", 5))),
                ("set person true friend key", ("set", "person", ALWAYS, "friend", KEY)),
                ("take room < key 3", ("take", "room", ("<", KEY, ("num", 3)))),
                ("need count book true 1 5", ("need", count, 1, 5)),
                ("need count book true none none", ("need", count, None, None)),
                ("need total person none age age -1 none", ("need", total, -1, None)),
                ("need total person none age age none 9", ("need", total, None, 9))]:
            self.reads(text, statement)

    def test_expressions(self):
        for words, expression in [
                ("0", ("num", 0)), ("-12", ("num", -12)), ("9" * 200, ("num", 10 ** 200 - 1)), ("key", KEY),
                ("pages", PAGES), ("via who age", ("via", "who", AGE)),
                ("via who via friend via friend age", ("via", "who", ("via", "friend", ("via", "friend", AGE)))),
                ("+ pages 1", ("+", PAGES, ("num", 1))), ("- 1 pages", ("-", ("num", 1), PAGES)),
                ("* - 1 2 + 3 4", ("*", ("-", ("num", 1), ("num", 2)), ("+", ("num", 3), ("num", 4)))),
                ("- - 1 2 3", ("-", ("-", ("num", 1), ("num", 2)), ("num", 3))),
                ("- 1 - 2 3", ("-", ("num", 1), ("-", ("num", 2), ("num", 3)))),
                ("+ via who + age 1 pages", ("+", ("via", "who", ("+", AGE, ("num", 1))), PAGES)),
                ("by plus -3 key", ("by", ("plus", -3), KEY)), ("by turned pages", ("by", ("turned",), PAGES)),
                ("by times 1000 1", ("by", ("times", 1000), ("num", 1))), ("by over 1 key", ("by", ("over", 1), KEY)),
                ("by rest 7 by over 2 key", ("by", ("rest", 7), ("by", ("over", 2), KEY))),
                ("by list 5 -6 0 end pages", ("by", ("list", (5, -6, 0)), PAGES)),
                ("+ by list 1 end key 2", ("+", ("by", ("list", (1,)), KEY), ("num", 2)))]:
            self.expression(words, expression)

    def test_conditions(self):
        one = ("<", PAGES, ("num", 1))
        for words, condition in [
                ("true", ALWAYS), ("< pages 1", one), ("= pages 1", ("=", PAGES, ("num", 1))), ("none who", ("none", WHO)),
                ("none via who age", ("none", ("via", "who", AGE))), ("not true", ("not", ALWAYS)),
                ("and < pages 1 true", ("and", one, ALWAYS)), ("or true < pages 1", ("or", ALWAYS, one)),
                ("and or true not true < pages 1", ("and", ("or", ALWAYS, ("not", ALWAYS)), one)),
                ("or true and < pages 1 not none who", ("or", ALWAYS, ("and", one, ("not", ("none", WHO)))))]:
            self.condition(words, condition)

    def test_lines(self):
        take, count = ("take", "room", ALWAYS), ("ask", ("count", "book", ALWAYS))
        self.reads("")
        self.reads("\n  \n# take\n #")
        self.reads("take room true\nask count book true", take, count)
        self.reads("ask count book true\ntake room true", count, take)
        self.reads("\n  take   room true # all\n\n#take book true\n ask count book true#\n", take, count)
        self.reads("take room true\ntake room true", take, take)

    def test_bad_words(self):
        for line in [
                "ask", "ask rows", "ask rows book", "ask rows book true true", "ask count book", "ask count book true key",
                "ask count book true true", "ask total book true", "ask total book true pages pages", "ask book true",
                "ask add book true", "ask sum book true pages", "count book true", "rows book true", "add", "add book",
                "add book 7", "add book 7 1 2", "add book 7 1 2 3 4", "add book none 1 2 3", "add book key 1 2 3",
                "add book 7 1 2 key", "add book 7 1 2 pages", "add book 7 1 2 + 1 1", "add book 07 1 2 3",
                "add book 7 1 2 -0", "add book 7 1 2 None", "add room 7 1", "add shop 7", "add 7 book 1 2 3",
                "set book true pages", "set book true", "set book pages true 5", "set book true pages 5 5",
                "set book true key 5", "set book true age 5", "set book true pages none", "set book true pages true",
                "set book true pages age", "set shop true pages 5", "set true book pages 5", "set book 5 pages true",
                "take", "take book", "take book true true", "take book key", "take book 5", "take true", "take shop true",
                "take book none", "take book none who who", "take book none none", "take book < pages", "take book <",
                "take book = 1 2 3", "take book and true", "take book and true key", "take book or key true",
                "take book not", "take book not key", "take book not true true", "take book none age",
                "need count book true", "need count book true 1", "need count book true 1 2 3", "need count book 1 2",
                "need count book true key 2", "need count book true 1 true", "need rows book true 1 2",
                "need rows book true 1 none", "need total book true 1 2", "need book true 1 2", "need total book true pages 1",
                "need ask count book true 1 2", "row book 7 1 2 3", "Take book true", "take Book true", "take book TRUE",
                "take book true;", "take book true ; take book true", "drop book true", "book", "7", "true"]:
            self.bad(0, read_transaction, SCHEMA, line)
            self.bad(1, read_transaction, SCHEMA, f"take room true\n{line}\n{line}")

    def test_bad_expressions(self):
        for words in ["", "none", "true", "007", "-0", "+5", "num 5", "col pages", "via", "via who", "via who who",
                      "via pages key", "via shop key", "via key who", "via who age 1", "via who true", "+ 1", "+", "* 1 2 3",
                      "- 1 true", "/ 1 2", "by", "by turned", "by plus key", "by plus 1", "by plus none key",
                      "by turned 1 key", "by over 0 key", "by times 1001 key", "by rest -1 key", "by rest 1000",
                      "by list end key", "by list 1 key", "by list 1 none end key", "by list 1 2", "by list key end 1",
                      "by key turned", "by turned true", "by minus 1 key", "by over two key", "list 1 end", "plus 1 key",
                      "turned key", "key key", "pages 5", "1" * 201, "by plus " + "1" * 201 + " key", "int", "end", "via who pages",
                      "by list " + "1 " * 1001 + "end key"]:
            self.bad(0, read_transaction, SCHEMA, f"set book true pages {words}")
            self.bad(0, read_transaction, SCHEMA, f"ask total book true {words}")
            self.bad(2, read_transaction, SCHEMA, f"\n\ntake book = 1 {words}\ntake")

    def test_bounds_in_texts(self):
        self.expression("by list " + "1 " * 1000 + "end key", ("by", ("list", (1,) * 1000), KEY))
        deep = ALWAYS
        for _ in range(700):
            deep = ("not", deep)
        made = read_transaction(SCHEMA, "take room " + "not " * 700 + "true")
        self.assertTrue(made == (("take", "room", deep),))
        self.bad(0, read_transaction, SCHEMA, "take room " + "not " * 740)
        self.bad(0, read_transaction, SCHEMA, "ask total room true " + "- " * 1480)

    def test_first_bad_line(self):
        self.bad(3, read_transaction, SCHEMA, "take room true\n# take\n\ntake\nadd\ntake room true")
        self.bad(0, read_transaction, SCHEMA, "take shop true\ntake\n")

    def test_wrong(self):
        for thing in ANYTHING:
            if thing != ((), ()):
                self.wrong(0, read_transaction, thing, "")
                self.wrong(0, read_transaction, thing, None)
                self.wrong(0, read_transaction, thing, "take")
                self.wrong(0, read_database, thing, "row")
            if not isinstance(thing, str):
                self.wrong(1, read_transaction, SCHEMA, thing)
                self.wrong(1, read_database, SCHEMA, thing)
                self.wrong(0, read_edges, thing)
        self.assertEqual(read_transaction(((), ()), ""), ())
        self.bad(0, read_transaction, ((), ()), "ask count book true")


class Edges(Reading):

    def reads(self, text, *edges):
        self.assertEqual(self.told(read_edges, text), edges, text)
        for _, change in edges:
            self.assertIs(is_change(change), True)

    def test_changes(self):
        for words, change in [
                ("call table t u", ("call table", "t", "u")), ("call column t c d", ("call column", "t", "c", "d")),
                ("add column t c below 5 -3", ("add column", "t", "c", ("below", 5), -3)),
                ("add column t c int 3", ("add column", "t", "c", INT, 3)),
                ("add column t c may u none", ("add column", "t", "c", ("may", "u"), None)),
                ("add column t c ref u 0", ("add column", "t", "c", ("ref", "u"), 0)),
                ("drop column t c 7", ("drop column", "t", "c", 7)), ("drop column t c none", ("drop column", "t", "c", None)),
                ("add table t check true", ("add table", "t", ((), ALWAYS))),
                ("add table t column a int check none a", ("add table", "t", ((("a", INT),), ("none", ("col", "a"))))),
                ("add table t column a may t column b ref u column c below 1000 check < a + b key",
                 ("add table", "t", ((("a", ("may", "t")), ("b", ("ref", "u")), ("c", ("below", 1000))),
                                     ("<", ("col", "a"), ("+", ("col", "b"), KEY))))),
                ("drop table t", ("drop table", "t")), ("split column t c 12 b a", ("split column", "t", "c", 12, "b", "a")),
                ("join columns t b a 1000 c", ("join columns", "t", "b", "a", 1000, "c")),
                ("change column t c int times 10 over 10", ("change column", "t", "c", INT, ("times", 10), ("over", 10))),
                ("change column t c below 3 list 2 1 0 end turned",
                 ("change column", "t", "c", ("below", 3), ("list", (2, 1, 0)), ("turned",))),
                ("change column t c ref u plus -1 rest 7", ("change column", "t", "c", ("ref", "u"), ("plus", -1), ("rest", 7))),
                ("move keys t -100", ("move keys", "t", -100)), ("move keys t 0", ("move keys", "t", 0)),
                ("split table t < a via b c v u", ("split table", "t", ("<", ("col", "a"), ("via", "b", ("col", "c"))), "v", "u")),
                ("split table t true u u", ("split table", "t", ALWAYS, "u", "u")),
                ("join tables t u w", ("join tables", "t", "u", "w")), ("part table t u c", ("part table", "t", ("c",), "u")),
                ("part table t z a b c", ("part table", "t", ("a", "b", "c"), "z")),
                ("put together t u", ("put together", "t", "u"))]:
            self.reads("from 0 " + words, (0, change))
            self.reads(f"\n from  0  {words} # why\nfrom 1 {words}", (0, change), (1, change))
            parts = words.split(" ")
            for more in ["5", "x", "none", "true", "end"]:
                if (parts[0], more) != ("part", "x"):
                    self.bad(1, read_edges, f"from 0 drop table t\nfrom 0 {words} {more}")
            for many in range(len(parts)):
                if parts[0] != "part" or many < 5:
                    self.bad(1, read_edges, f"from 0 drop table t\nfrom 0 {' '.join(parts[:many])}")

    def test_versions(self):
        drop = ("drop table", "t")
        self.reads("")
        self.reads("# from\n\n")
        self.reads("from 0 drop table t\nfrom 0 drop table t\nfrom 2 drop table t\nfrom 1 drop table t",
                   (0, drop), (0, drop), (2, drop), (1, drop))
        for word in ["1", "-1", "none", "a", "00", "from", "true", "10"]:
            self.bad(0, read_edges, f"from {word} drop table t")
        self.bad(1, read_edges, "from 0 drop table t\nfrom 2 drop table t")
        self.bad(3, read_edges, "from 0 drop table t\n\n#\nfrom 2 drop table t")
        self.bad(4, read_edges, "from 0 drop table t\nfrom 1 drop table t\n\n#\nfrom 3 drop table t")
        self.bad(0, read_edges, "drop table t")
        self.bad(0, read_edges, "to 0 drop table t")
        self.bad(0, read_edges, "0 from drop table t")

    def test_bad_words(self):
        for words in [
                "drop", "drop tables t", "table drop t", "droptable t", "call t u", "call table t key", "call table 2t u",
                "call columns t c d", "add column t c 5 int", "add column t c below 5", "add column t c below 0 3",
                "add column t c below 1001 3", "add column t c below none 3", "add column t c int true",
                "add column t c may none", "add column t c may may none", "add column t int 3", "add column t c int key",
                "drop column t c d", "add table t", "add table t column a int", "add table t check", "add table t check key",
                "add table t check none a", "add table t column a int check none b", "add table t column a check true",
                "add table t column b int column a int check true", "add table t column a int column a int check true",
                "add table t column a may u check none via a key", "add table t check true column a int",
                "add table t column a int 5 check true", "add table t a int check true", "split column t c b 12 a",
                "split column t c 0 b a", "split column t c 1001 b a", "split column t c none b a", "split columns t c 4 b a",
                "join columns t b a c 12", "join columns t b a 0 c", "join columns t b a 1001 c", "join column t b a 4 c",
                "change column t c times 10 over 10 int", "change column t c int times 0 over 10",
                "change column t c int times 10 over 1001", "change column t c int list end turned",
                "change column t c int turned", "change column t c key turned turned", "change column t c int key turned",
                "move keys t none", "move keys t u", "move keys t 007", "move key t 5", "move keys 5 t",
                "split table t u v true", "split table t u v", "split table t key u v", "split table t true u",
                "join tables t u", "join table t u w", "join tables t u 5", "part table t c 5", "part table t u b a",
                "part table t u a a", "part table t u", "part table t u a none", "part table t u a key", "parts table t u a",
                "put together t", "put table t u", "put together t none", "take book true", "grow 0 drop table t"]:
            self.bad(0, read_edges, "from 0 " + words)
            self.bad(2, read_edges, f"from 0 drop table t\n\nfrom 1 {words}\nfrom")


class Databases(Reading):

    def test_rows(self):
        self.assertEqual(self.new(read_database, SCHEMA, ""), {"book": {}, "person": {}, "room": {}})
        self.assertEqual(self.new(read_database, ((), ()), "\n#\n"), {})
        text = "row room 9\nrow person 5 30 5 # old\n\nrow book 8 0 -4 none\n row   person -5 -7 none\nrow book 7 499 9 5"
        self.assertEqual(self.new(read_database, SCHEMA, text), {
            "book": {7: (499, 9, 5), 8: (0, -4, None)}, "person": {-5: (-7, None), 5: (30, 5)}, "room": {9: ()}})

    def test_bad(self):
        for line in ["row", "row book", "row book 7", "row book 7 1 2", "row book 7 1 2 3 4", "row shop 7", "row book none 1 2 3",
                     "row book 7 none 2 3", "row book 7 1 none 3", "row book 7 500 2 3", "row book 7 -1 2 3", "row room 7 1",
                     "row person 7 none 3", "row person 7 1 key", "row person 7 1 true", "row person key 1 2", "row 7 book 1 2 3",
                     "row person 07 1 2", "row person 7 1 -0", "row person 7 + 1 1 2", "add person 7 1 2", "rows person 7 1 2",
                     "person 7 1 2", "row table 7", "row person 7 " + "1" * 201 + " 2"]:
            self.bad(0, read_database, SCHEMA, line)
            self.bad(2, read_database, SCHEMA, f"row room 1\n# row\n{line}\nrow")

    def test_keys_twice(self):
        self.bad(1, read_database, SCHEMA, "row room 7\nrow room 7")
        self.bad(2, read_database, SCHEMA, "row person 7 1 none\nrow room 7\nrow person 7 1 none\nrow room 7")
        self.bad(2, read_database, SCHEMA, "row person 7 1 none\nrow person 8 1 none\nrow person 7 2 none")
        text = "row person 7 1 none\nrow room 7\nrow book 7 1 1 1"
        self.assertEqual(read_database(SCHEMA, text), {"book": {7: (1, 1, 1)}, "person": {7: (1, None)}, "room": {7: ()}})


class AtRandom(Reading):

    def test_what_reads_is_shown_with_the_same_words(self):
        read, unread = 0, 0
        for seed in range(400):
            teller = Teller(seed)
            schema = teller.schema()
            for function, arguments, show, text in [
                    (read_transaction, (schema,), show_transaction, show_transaction(teller.transaction(schema))),
                    (read_edges, (), show_edges, show_edges(teller.edges()))]:
                for _ in range(5):
                    other = teller.spoiled(text)
                    try:
                        self.assertEqual(show(function(*arguments, other)), normal(other))
                        read += 1
                    except NoText as error:
                        unread += 1
                        ahead = "\n".join(other.split("\n")[:error.line])
                        self.assertEqual(show(function(*arguments, ahead)), normal(ahead))
                        through = "\n".join(other.split("\n")[:error.line + 1])
                        if function is not read_edges:
                            self.bad(0, function, *arguments, other.split("\n")[error.line])
                        self.bad(error.line, function, *arguments, through)
        self.assertGreater(read, 300)
        self.assertGreater(unread, 1500)

    def test_what_reads_has_the_form(self):
        for seed in range(300):
            teller = Teller(seed)
            schema = teller.schema()
            self.assertIs(is_transaction(schema, read_transaction(schema, show_transaction(teller.transaction(schema)))), True)
            self.assertIs(is_database(schema, read_database(schema, show_database(schema, teller.database(schema)))), True)


if __name__ == "__main__":
    unittest.main()
