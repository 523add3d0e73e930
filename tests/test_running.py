"""[24]: TRANSACTIONS run, and the tables that they name."""

import unittest

from everyversion.databases import broken, is_right
from everyversion.errors import Refused
from everyversion.forms import is_database, is_statement, is_transaction
from everyversion.queries import asked, is_met
from everyversion.running import run, step_by, tables_named, would_run, written_tables
from everyversion.worths import holds, worth
from lives import Life
from samples import ALWAYS, News, turned_about

KEY, A, B, C = ("key",), ("col", "a"), ("col", "b"), ("col", "c")
NONE = ("by", ("list", (0,)), ("num", 5))
# a is an int above 0, b below 10, c may lead to t, d leads to u.
T = ((("a", ("int",)), ("b", ("below", 10)), ("c", ("may", "t")), ("d", ("ref", "u"))), ("<", ("num", 0), A))
U = ((("x", ("may", "t")),), ALWAYS)
SCHEMA = ((("t", T), ("u", U), ("v", ((), ("<", KEY, ("num", 50))))), (("apart", "t", "v"), ("same", "u", "v")))
RIGHT = {"v": {9: (), 8: ()}, "u": {9: (3,), 8: (None,)}, "t": {4: (7, 0, 3, 8), 3: (5, 9, None, 9)}}
FREE = {9: (None,), 8: (None,)}
LONG = 10 ** 100


def one(number):
    return ("num", number)


def add(table, key, *row):
    return ("add", table, key, row)


def put(column, expression, where=ALWAYS, table="t"):
    return ("set", table, where, column, expression)


def at(key):
    return ("=", KEY, one(key))


class Running(News):

    def refused(self, index, reason, *transaction):
        self.assertIs(is_transaction(SCHEMA, transaction), True)
        for database in [RIGHT, turned_about(RIGHT)]:
            before = repr(database)
            with self.assertRaises(Refused, msg=transaction) as caught:
                run(SCHEMA, database, transaction)
            self.assertEqual(repr((caught.exception.index, caught.exception.reason)), repr((index, reason)), transaction)
            self.assertIs(self.told(would_run, SCHEMA, database, transaction), False)
            self.assertEqual(repr(database), before)

    def runs(self, answers, tables, *transaction):
        """See what a transaction tells, and that the new DATABASE is RIGHT but for some tables told anew."""
        self.assertIs(is_transaction(SCHEMA, transaction), True)
        for database in [RIGHT, turned_about(RIGHT)]:
            told = self.new(run, SCHEMA, database, transaction)
            self.assertIs(type(told), tuple)
            self.assertEqual(told, (answers, {**RIGHT, **tables}))
            self.assertIs(is_database(SCHEMA, told[1]), True)
            self.assertIs(self.told(would_run, SCHEMA, database, transaction), True)


class Run(Running):

    def test_nothing(self):
        self.assertTrue(is_right(SCHEMA, RIGHT))
        self.runs([], {})
        self.assertEqual(self.new(run, ((), ()), {}, ()), ([], {}))

    def test_asks_in_order(self):
        self.runs([2, [(3, (5,)), (4, (7,))], 12], {}, ("ask", ("count", "t", ALWAYS)), ("ask", ("rows", "t", ALWAYS, (A,))),
                  ("ask", ("total", "t", ALWAYS, A)))
        self.runs([2, 3, 1], {"t": {1: (1, 1, 1, 8)}, "u": FREE}, put("x", NONE, ALWAYS, "u"), ("ask", ("count", "t", ALWAYS)),
                  add("t", 1, 1, 1, 1, 8), ("ask", ("count", "t", ALWAYS)), ("take", "t", ("<", one(1), KEY)),
                  ("ask", ("count", "t", ALWAYS)))
        self.runs([[]], {}, ("ask", ("rows", "t", at(1), ())))

    def test_add(self):
        self.runs([], {"t": {**RIGHT["t"], -7: (1, 0, None, 8)}}, add("t", -7, 1, 0, None, 8))
        self.runs([], {"t": {**RIGHT["t"], 5: (LONG ** 2, 9, 5, 9)}}, add("t", 5, LONG ** 2, 9, 5, 9))
        self.refused(0, ("there",), add("t", 4, 7, 0, 3, 8))
        self.refused(0, ("fit",), add("t", 1, 1, 10, None, 8))
        self.refused(0, ("fit",), add("t", 1, 1, -1, None, 8))
        self.refused(0, ("fit",), add("t", 1, None, 1, None, 8))
        self.refused(0, ("fit",), add("t", 1, 1, 1, None, None))
        self.refused(0, ("fit",), add("t", 1, 1, None, None, 8))
        # A key that is there comes ahead of a row that does not fit.
        self.refused(0, ("there",), add("t", 4, None, 99, None, None))
        self.refused(1, ("there",), ("ask", ("count", "t", ALWAYS)), add("t", 3, 1, 1, None, 8), add("t", 1, None, 1, None, 8))
        self.refused(2, ("there",), ("take", "t", at(4)), add("t", 4, 1, 1, None, 8), add("t", 4, 1, 1, None, 8))
        self.runs([], {"t": {3: (5, 9, None, 9), 4: (1, 1, None, 8)}}, ("take", "t", at(4)), add("t", 4, 1, 1, None, 8))

    def test_set(self):
        self.runs([], {"t": {3: (6, 9, None, 9), 4: (8, 0, 3, 8)}}, put("a", ("+", A, one(1))))
        self.runs([], {"t": {3: (5, 5, None, 9), 4: (7, 7, 3, 8)}}, put("b", A))
        self.runs([], {"t": {3: (5, 9, None, 9), 4: (7, 0, 4, 8)}}, put("c", KEY, at(4)))
        self.runs([], {"t": {3: (5, 9, None, 9), 4: (7, 0, None, 8)}}, put("c", ("via", "c", C)))
        self.runs([], {}, put("b", one(99), at(1)))
        self.refused(0, ("fit",), put("b", one(10)))
        self.refused(0, ("fit",), put("b", one(-1)))
        self.refused(0, ("fit",), put("a", NONE))
        self.refused(0, ("fit",), put("a", C))
        self.refused(0, ("fit",), put("d", NONE, at(3)))
        self.refused(0, ("fit",), put("b", ("+", one(0), ("-", A, one(-4)))))
        self.refused(2, ("fit",), put("a", one(3)), put("b", ("-", B, ("by", ("over", 9), B))), put("b", ("+", B, one(2))))

    def test_worths_are_those_ahead(self):
        # 4 sees what 3 has ahead of the statement, whichever is put in first.
        self.runs([], {"t": {3: (10, 9, None, 9), 4: (5, 0, 3, 8)}},
                  put("c", one(3), at(3)), put("a", ("via", "c", ("-", ("+", A, A), ("*", ("via", "c", A), one(1)))), at(4)),
                  put("c", NONE, at(3)), put("a", ("+", A, A), at(3)))
        self.runs([], {"t": {3: (12, 9, 4, 9), 4: (12, 0, 3, 8)}}, put("c", one(4), at(3)), put("a", ("+", A, ("via", "c", A))))
        # The rows of a where are those ahead, too.
        self.runs([], {"t": {3: (7, 9, 4, 9), 4: (7, 0, 3, 8)}}, put("c", one(4), at(3)),
                  put("a", one(7), ("<", A, ("+", ("via", "c", A), one(3)))))
        self.runs([], {"t": {}, "u": FREE}, put("x", NONE, ALWAYS, "u"), put("c", one(4), at(3)),
                  ("take", "t", ("not", ("none", ("via", "c", KEY)))))

    def test_long_worths(self):
        for number in [LONG - 1, -(LONG - 1)]:
            schema = ((("t", ((("a", ("int",)), ("b", ("may", "t"))), ALWAYS)),), ())
            base = {"t": {1: (0, None)}}
            self.assertEqual(self.new(run, schema, base, (put("a", one(number)),)), ([], {"t": {1: (number, None)}}))
            for column in "ab":
                beyond = number + (1 if number > 0 else -1)
                for told in [one(beyond), ("+", one(number), one(beyond - number)), ("*", one(beyond), one(beyond))]:
                    with self.assertRaises(Refused) as caught:
                        run(schema, base, (put("a", one(5)), put(column, told)))
                    self.assertEqual((caught.exception.index, caught.exception.reason), (1, ("fit",)))
                    with self.assertRaises(Refused) as caught:
                        step_by(schema, base, put(column, told))
                    self.assertEqual((caught.exception.index, caught.exception.reason), (0, ("fit",)))
        # Amid a worth more digits may stand.
        self.runs([], {"t": {3: (1, 9, None, 9), 4: (1, 0, 3, 8)}}, put("a", ("+", ("-", one(LONG * 9), one(LONG * 9)), one(1))))

    def test_take(self):
        self.runs([], {"t": {3: (5, 9, None, 9)}}, ("take", "t", ("<", one(6), A)))
        self.runs([], {"t": {}, "u": FREE}, ("take", "t", ALWAYS), put("x", NONE, ALWAYS, "u"))
        self.runs([], {}, ("take", "t", at(99)))
        self.runs([], {"t": {}, "u": {}, "v": {}}, ("take", "v", ALWAYS), ("take", "t", ALWAYS), ("take", "u", ALWAYS))

    def test_need(self):
        self.runs([2], {}, ("need", ("count", "t", ALWAYS), 2, 2), ("need", ("total", "t", ALWAYS, A), None, None), ("ask", ("count", "t", ALWAYS)))
        self.refused(0, ("need",), ("need", ("count", "t", ALWAYS), 3, None))
        self.refused(1, ("need",), ("take", "t", at(4)), ("need", ("count", "t", ALWAYS), 2, None), add("t", 3, 1, 1, 1, 1))
        self.runs([], {"t": {3: (5, 9, None, 9)}}, ("take", "t", at(4)), ("need", ("total", "t", ALWAYS, A), None, 5))

    def test_broken_at_the_end(self):
        # Wrong amid a transaction and right at its end.
        self.runs([[(3, (None,)), (4, (None,))]], {"t": {3: (5, 9, None, 10), 4: (7, 0, 3, 10)}, "u": {10: (None,)}, "v": {10: ()}},
                  ("take", "u", ALWAYS), ("take", "v", ALWAYS), ("ask", ("rows", "t", ALWAYS, (("via", "d", KEY),))),
                  put("d", one(10)), add("u", 10, None), add("v", 10))
        self.runs([], {"t": {3: (5, 9, None, 9), 4: (1, 0, 3, 8)}}, put("a", one(-5)), put("a", one(5), at(3)), put("a", one(1), at(4)))
        self.refused(1, ("broken", ("check", "t", 3)), put("a", one(0)))
        self.refused(1, ("broken", ("ref", "t", 4, "c")), ("take", "t", at(3)))
        self.refused(2, ("broken", ("ref", "u", 9, "x")), put("c", NONE), ("take", "t", at(3)))
        self.refused(1, ("broken", ("ref", "t", 3, "d")), ("take", "u", ALWAYS))
        self.refused(1, ("broken", ("same", "u", "v", 9)), ("take", "v", at(9)))
        self.refused(2, ("broken", ("check", "v", 50)), add("u", 50, None), add("v", 50))
        self.refused(2, ("broken", ("apart", "t", "v", 3)), add("u", 3, None), add("v", 3))
        # refs ahead of checks, these ahead of rules.
        self.refused(2, ("broken", ("ref", "t", 1, "d")), ("take", "v", at(9)), add("t", 1, -1, 0, 1, 1))
        self.refused(2, ("broken", ("check", "t", 1)), ("take", "v", at(9)), add("t", 1, -1, 0, 1, 9))
        # What can't be done comes ahead of what is broken already.
        self.refused(1, ("there",), ("take", "u", ALWAYS), add("t", 4, 1, 1, 1, 1))

    def test_own_reference(self):
        schema = ((("t", ((("r", ("ref", "t")),), ALWAYS)),), ())
        self.assertEqual(self.new(run, schema, {"t": {}}, (add("t", 1, 2), add("t", 2, 1))), ([], {"t": {1: (2,), 2: (1,)}}))
        self.assertEqual(self.new(run, schema, {"t": {}}, (add("t", 1, 1),)), ([], {"t": {1: (1,)}}))
        self.assertEqual(self.new(run, schema, {"t": {1: (2,), 2: (1,)}}, (("take", "t", ("=", ("via", "r", KEY), ("num", 1))),
                                                                           put("r", KEY))), ([], {"t": {1: (1,)}}))
        with self.assertRaises(Refused) as caught:
            run(schema, {"t": {1: (2,), 2: (1,)}}, (("take", "t", at(2)),))
        self.assertEqual((caught.exception.index, caught.exception.reason), (1, ("broken", ("ref", "t", 1, "r"))))


class Steps(News):

    def test_step_by(self):
        wrong = {"v": {}, "u": {9: (3,)}, "t": {4: (-7, 0, 3, 8)}}
        for statement, told, tables in [
                (("ask", ("count", "t", ALWAYS)), 1, {}), (("ask", ("rows", "t", ALWAYS, (("via", "c", A),))), [(4, (None,))], {}),
                (add("t", 5, 1, 1, 99, 99), None, {"t": {4: (-7, 0, 3, 8), 5: (1, 1, 99, 99)}}),
                (put("a", ("-", A, one(1))), None, {"t": {4: (-8, 0, 3, 8)}}), (("take", "t", ALWAYS), None, {"t": {}}),
                (put("x", ("via", "x", KEY), ALWAYS, "u"), None, {"u": {9: (None,)}}),
                (("need", ("count", "t", ALWAYS), 1, 1), None, {})]:
            self.assertIs(is_statement(SCHEMA, statement), True)
            for database in [wrong, turned_about(wrong)]:
                self.assertEqual(self.new(step_by, SCHEMA, database, statement), (told, {**wrong, **tables}))
        for statement, reason in [(add("t", 4, None, 1, 1, 1), ("there",)), (add("t", 5, None, 1, 1, 1), ("fit",)),
                                  (put("b", A), ("fit",)), (("need", ("count", "t", ALWAYS), 2, None), ("need",))]:
            before = repr(wrong)
            with self.assertRaises(Refused) as caught:
                step_by(SCHEMA, wrong, statement)
            self.assertEqual((caught.exception.index, caught.exception.reason), (0, reason))
            self.assertEqual(before, repr(wrong))


def modelled(schema, database, transaction):
    """Return what run tells, done row by row."""
    answers, new = [], {table: dict(rows) for table, rows in database.items()}
    for index, (word, *told) in enumerate(transaction):
        if word == "ask":
            answers.append(asked(schema, new, told[0]))
        elif word == "need":
            if not is_met(schema, new, ("need", *told)):
                return index, ("need",)
        elif word == "add":
            if told[1] in new[told[0]]:
                return index, ("there",)
            new[told[0]][told[1]] = told[2]
        else:
            table, where = told[:2]
            old = {name: dict(rows) for name, rows in new.items()}
            names = [name for name, _ in dict(schema[0])[table][0]]
            for key in old[table]:
                if holds(schema, old, table, key, where):
                    row = list(new[table].pop(key))
                    if word == "set":
                        row[names.index(told[2])] = worth(schema, old, table, key, told[3])
                        new[table][key] = tuple(row)
        if not is_database(schema, new):
            return index, ("fit",)
    found = broken(schema, new)
    return (len(transaction), ("broken", found[0])) if found else (answers, new)


class AtRandom(News):

    def test_run(self):
        ran, reasons = 0, set()
        for seed in range(250):
            life = Life(seed)
            schema = life.schema()
            database = life.database(schema)
            for _ in range(3):
                transaction = life.transaction(schema)
                self.assertIs(is_transaction(schema, transaction), True, transaction)
                model = modelled(schema, database, transaction)
                if would_run(schema, database, transaction):
                    told = self.new(run, schema, database, transaction)
                    self.assertEqual(told, model)
                    self.assertTrue(is_right(schema, told[1]))
                    changed = {table for table in database if told[1][table] != database[table]}
                    self.assertLessEqual(changed, set(written_tables(transaction)))
                    ran, database = ran + (database != told[1]), told[1]
                else:
                    with self.assertRaises(Refused) as caught:
                        run(schema, database, transaction)
                    self.assertEqual((caught.exception.index, caught.exception.reason), model)
                    reasons.add(caught.exception.reason[0])
        self.assertGreater(ran, 60)
        self.assertEqual(reasons, {"there", "fit", "need", "broken"})

    def test_what_it_hangs_on(self):
        """Tables that are not named can be emptied: what is told and done stays, but for the end."""
        several = 0
        for seed in range(250):
            life = Life(seed)
            schema = life.schema()
            database = life.database(schema)
            transaction = life.transaction(schema)
            named = tables_named(schema, transaction)
            other = {table: database[table] if table in named else {} for table in database}
            several += other != database
            for statement in transaction:
                told = []
                for base in (database, other):
                    try:
                        told.append(step_by(schema, base, statement))
                    except Refused as error:
                        told.append(error.reason)
                if isinstance(told[0][-1], str):
                    self.assertEqual(told[0], told[1])
                    break
                self.assertEqual(told[0][0], told[1][0])
                database, other = told[0][1], told[1][1]
                self.assertEqual({table: database[table] for table in named}, {table: other[table] for table in named})
        self.assertGreater(several, 50)


class Tables(News):

    def test_written_tables(self):
        for transaction, tables in [
                ((), ()), ((("ask", ("count", "t", ALWAYS)), ("need", ("count", "u", ALWAYS), 1, 1)), ()),
                ((add("u", 1, None),), ("u",)), ((put("a", one(1)),), ("t",)), ((("take", "v", ALWAYS),), ("v",)),
                ((("take", "v", ALWAYS), put("a", one(1)), add("t", 1), ("take", "v", ALWAYS)), ("t", "v")),
                ((put("a", ("via", "d", KEY)), ("ask", ("count", "v", ALWAYS))), ("t",))]:
            self.assertEqual(self.told(written_tables, transaction), tables)

    def test_tables_named(self):
        deep = ("via", "d", ("via", "x", ("via", "d", KEY)))
        for transaction, tables in [
                ((), ()), ((("ask", ("count", "t", ALWAYS)),), ("t",)), ((("ask", ("count", "t", ("none", deep))),), ("t", "u")),
                ((("ask", ("rows", "t", ALWAYS, (A, ("+", A, ("via", "d", KEY))))),), ("t", "u")),
                ((("ask", ("rows", "u", ALWAYS, ())),), ("u",)), ((("ask", ("total", "u", ALWAYS, ("via", "x", A))),), ("t", "u")),
                ((("need", ("total", "u", ALWAYS, KEY), 1, None),), ("u",)),
                ((("need", ("count", "u", ("<", KEY, ("by", ("plus", 1), ("via", "x", A)))), 1, None),), ("t", "u")),
                ((add("v", 1), ("take", "u", ALWAYS)), ("u", "v")), ((add("t", 1, 1, 1, 1, 1),), ("t",)),
                ((("take", "u", ("and", ALWAYS, ("not", ("none", ("via", "x", KEY))))),), ("t", "u")),
                ((put("x", KEY, ALWAYS, "u"),), ("u",)), ((put("a", ("via", "d", KEY)),), ("t", "u")),
                ((put("a", KEY, ("none", ("via", "d", KEY))),), ("t", "u")), ((put("a", ("via", "c", A)), add("v", 1)), ("t", "v"))]:
            self.assertIs(is_transaction(SCHEMA, tuple(one for one in transaction)), True)
            self.assertEqual(self.told(tables_named, SCHEMA, transaction), tables)


if __name__ == "__main__":
    unittest.main()
