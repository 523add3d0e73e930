"""[23]: what QUERIES tell, and needs."""

import unittest

from everyversion.forms import is_query, is_statement
from everyversion.queries import asked, is_met
from everyversion.worths import holds, worth
from lives import Life
from samples import ALWAYS, News, turned_about

KEY, PRICE, BOX, ROOM = ("key",), ("col", "price"), ("col", "box"), ("col", "room")
BOXES = ((("inner", ("may", "boxes")), ("room", ("below", 10))), ALWAYS)
GOODS = ((("box", ("may", "boxes")), ("price", ("int",))), ALWAYS)
SCHEMA = ((("boxes", BOXES), ("goods", GOODS), ("none1", ((), ALWAYS))), ())
# No box 4 is there, as amid a transaction.
DATABASE = {
    "goods": {9: (2, 8), 7: (None, 2), 5: (1, 30), -3: (4, -6)},
    "none1": {},
    "boxes": {2: (4, 0), 1: (2, 4)},
}
NEVER = ("not", ALWAYS)


def one(number):
    return ("num", number)


class Asked(News):

    def tells(self, query, told):
        self.assertIs(is_query(SCHEMA, query), True, query)
        for database in [DATABASE, turned_about(DATABASE)]:
            found = self.new(asked, SCHEMA, database, query)
            self.assertEqual(repr(found), repr(told), query)

    def test_rows(self):
        for where, expressions, told in [
                (ALWAYS, (), [(-3, ()), (5, ()), (7, ()), (9, ())]), (NEVER, (PRICE,), []),
                (("none", BOX), (PRICE, KEY), [(7, (2, 7))]), (("<", PRICE, one(10)), (), [(-3, ()), (7, ()), (9, ())]),
                (("=", KEY, one(5)), (KEY, PRICE, BOX, one(1), ("*", PRICE, PRICE)), [(5, (5, 30, 1, 1, 900))]),
                (ALWAYS, (("via", "box", ROOM),), [(-3, (None,)), (5, (4,)), (7, (None,)), (9, (0,))]),
                (("<", one(3), ("via", "box", ROOM)), (), [(5, ())]),
                (ALWAYS, (("+", PRICE, ("via", "box", ("via", "inner", KEY))),), [(-3, (None,)), (5, (32,)), (7, (None,)), (9, (None,))])]:
            self.tells(("rows", "goods", where, expressions), told)
        self.tells(("rows", "none1", ALWAYS, (KEY,)), [])

    def test_count(self):
        for where, told in [(ALWAYS, 4), (NEVER, 0), (("<", PRICE, one(10)), 3), (("none", BOX), 1),
                            (("none", ("via", "box", KEY)), 2), (("=", PRICE, one(30)), 1)]:
            self.tells(("count", "goods", where), told)
        self.tells(("count", "none1", ALWAYS), 0)
        self.tells(("count", "boxes", ("none", ("via", "inner", ROOM))), 1)

    def test_total(self):
        for where, expression, told in [
                (ALWAYS, PRICE, 34), (NEVER, PRICE, 0), (ALWAYS, BOX, 7), (("none", BOX), BOX, 0), (ALWAYS, one(5), 20),
                (ALWAYS, ("via", "box", ROOM), 4), (("<", PRICE, one(10)), PRICE, 4), (ALWAYS, KEY, 18),
                (ALWAYS, ("by", ("list", (0, 100)), BOX), 100), (ALWAYS, ("-", PRICE, ("*", PRICE, one(2))), -34)]:
            self.tells(("total", "goods", where, expression), told)
        self.tells(("total", "none1", ALWAYS, KEY), 0)

    def test_at_random(self):
        several = 0
        for seed in range(150):
            life = Life(seed)
            schema = life.schema()
            database = life.database(schema)
            for _ in range(4 if database else 0):
                query = life.query(schema, ["rows", "count", "total"])
                self.assertIs(is_query(schema, query), True)
                table, where = query[1:3]
                keys = [key for key in sorted(database[table]) if holds(schema, database, table, key, where)]
                worths = [[worth(schema, database, table, key, told) for told in query[3:4]] for key in keys if query[0] == "total"]
                told = {
                    "rows": lambda: [(key, tuple(worth(schema, database, table, key, one) for one in query[3])) for key in keys],
                    "count": lambda: len(keys), "total": lambda: sum(number or 0 for number, in worths),
                }[query[0]]()
                self.assertEqual(self.new(asked, schema, turned_about(database), query), told)
                several += len(keys) > 1
        self.assertGreater(several, 40)


class Met(News):

    def met(self, query, least, most, truth):
        statement = ("need", query, least, most)
        self.assertIs(is_statement(SCHEMA, statement), True)
        self.assertIs(self.told(is_met, SCHEMA, DATABASE, statement), truth, statement)

    def test_needs(self):
        for query, number in [(("count", "goods", ALWAYS), 4), (("total", "goods", ALWAYS, PRICE), 34), (("count", "goods", NEVER), 0),
                              (("total", "goods", ("<", PRICE, one(0)), PRICE), -6), (("total", "none1", ALWAYS, KEY), 0)]:
            self.met(query, None, None, True)
            for least, truth in [(number - 1, True), (number, True), (number + 1, False), (-(10 ** 30), True), (10 ** 30, False)]:
                self.met(query, least, None, truth)
                self.met(query, least, number, truth)
                self.met(query, least, number - 1, False)
                self.met(query, None, 2 * number - least, truth)
            self.met(query, number, number, True)
            self.met(query, number + 1, number - 1, False)


if __name__ == "__main__":
    unittest.main()
