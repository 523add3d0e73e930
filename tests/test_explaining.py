"""[25]: what leads from one DATABASE to another, and transactions one behind the other."""

import unittest

from everyversion.databases import empty
from everyversion.errors import Refused
from everyversion.explaining import put_behind, turned_into
from everyversion.forms import is_transaction
from everyversion.running import run, would_run
from lives import Life
from samples import ALWAYS, News, turned_about

SCHEMA = ((("t", ((("a", ("int",)), ("b", ("may", "u"))), ALWAYS)), ("u", ((), ALWAYS))), ())


def take(table, key):
    return ("take", table, ("=", ("key",), ("num", key)))


class Explaining(News):

    def turns(self, one, other, *transaction):
        self.assertEqual(self.told(turned_into, SCHEMA, one, other), transaction)
        self.assertEqual(self.told(turned_into, SCHEMA, turned_about(one), turned_about(other)), transaction)
        self.assertIs(is_transaction(SCHEMA, transaction), True)
        self.assertEqual(run(SCHEMA, one, transaction), ([], other))

    def test_turned_into(self):
        one = {"t": {1: (5, None), 10: (6, 3), -2: (7, None)}, "u": {3: (), 4: ()}}
        self.turns(one, one)
        self.turns(one, empty(SCHEMA), take("t", -2), take("t", 1), take("t", 10), take("u", 3), take("u", 4))
        self.turns(empty(SCHEMA), one, ("add", "t", -2, (7, None)), ("add", "t", 1, (5, None)), ("add", "t", 10, (6, 3)),
                   ("add", "u", 3, ()), ("add", "u", 4, ()))
        self.turns(one, {"t": {1: (5, 4), 10: (6, 3), -2: (7, None)}, "u": {3: (), 4: ()}}, take("t", 1), ("add", "t", 1, (5, 4)))
        self.turns(one, {"t": {2: (0, 9), 10: (6, 9), -2: (7, None)}, "u": {9: (), 4: ()}}, take("t", 1), take("t", 10), take("u", 3),
                   ("add", "t", 2, (0, 9)), ("add", "t", 10, (6, 9)), ("add", "u", 9, ()))
        self.turns(empty(SCHEMA), empty(SCHEMA))

    def test_put_behind(self):
        one, other = (take("t", 1), ("ask", ("count", "t", ALWAYS))), (("add", "u", 1, ()),)
        self.assertEqual(self.told(put_behind, one, other), one + other)
        self.assertEqual(self.told(put_behind, (), one), one)
        self.assertEqual(self.told(put_behind, one, ()), one)
        self.assertEqual(self.told(put_behind, (), ()), ())

    def test_at_random(self):
        turned, behind = 0, 0
        for seed in range(150):
            life = Life(seed)
            schema = life.schema()
            one, other = life.database(schema), life.database(schema)
            transaction = turned_into(schema, one, other)
            self.assertIs(is_transaction(schema, transaction), True)
            self.assertEqual(run(schema, one, transaction), ([], other))
            turned += len(transaction) > 1
            first, second = life.transaction(schema), life.transaction(schema)
            try:
                answers, new = run(schema, one, first)
                more, last = run(schema, new, second)
            except Refused:
                continue
            behind += last != one
            self.assertIs(would_run(schema, one, put_behind(first, second)), True)
            self.assertEqual(run(schema, one, put_behind(first, second)), (answers + more, last))
        self.assertGreater(turned, 40)
        self.assertGreater(behind, 15)


if __name__ == "__main__":
    unittest.main()
