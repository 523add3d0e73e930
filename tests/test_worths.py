"""[19]: what EXPRESSIONS are worth, and whether CONDITIONS HOLD, at a row."""

import unittest

from everyversion.worths import holds, holds_in, worth, worth_in
from samples import ALWAYS, Checks, turned_about
from texts import Teller

KEY = ("key",)
A, B, C = ("col", "a"), ("col", "b"), ("col", "c")
NONE = ("by", ("list", (0,)), ("num", 1))
NEVER = ("not", ALWAYS)


def one(number):
    return ("num", number)


# t has a number, a ref to itself and a may to u; u has a may to t.
SCHEMA = (
    (("t", ((("a", ("int",)), ("b", ("ref", "t")), ("c", ("may", "u"))), ALWAYS)),
     ("u", ((("a", ("may", "t")), ("z", ("below", 9))), ALWAYS))),
    (),
)
DATABASE = {
    "u": {4: (2, 8), 5: (None, 7), 6: (99, 6)},
    "t": {3: (-30, 2, None), 1: (10, 2, 4), 2: (20, 77, 5), 7: (40, 7, 88), 8: (50, 1, 6)},
}


def told(schema, database, table, key, thing):
    """Return what the document says of an EXPRESSION or a CONDITION, None of a row that is not there."""
    row = database[table].get(key) if key is not None else None
    if row is None:
        return None
    columns = dict(schema[0])[table][0]
    names = [name for name, _ in columns]
    word = thing[0]
    if word in ("num", "key", "col", "true"):
        return {"num": thing[-1], "key": key, "col": row[names.index(thing[-1])] if word == "col" else None, "true": True}[word]
    if word == "via":
        at = names.index(thing[1])
        return told(schema, database, columns[at][1][1], row[at], thing[2])
    below = [told(schema, database, table, key, part) for part in (thing[2:] if word == "by" else thing[1:])]
    if word == "none":
        return below[0] is None
    if word == "=":
        return below[0] == below[1]
    if word in ("and", "or", "not"):
        return {"and": all(below), "or": any(below), "not": not below[0]}[word]
    if None in below:
        return False if word == "<" else None
    if word == "by":
        way, number = thing[1], below[0]
        if way[0] == "list":
            return way[1][number] if number in range(len(way[1])) else None
        return {"plus": number + way[-1] if way[0] == "plus" else 0, "turned": -number, "times": number * way[-1] if way[1:] else 0,
                "over": number // way[-1] if way[1:] and way[-1] else 0,
                "rest": number % way[-1] if way[1:] and way[-1] else 0}[way[0]]
    return {"+": below[0] + below[-1], "-": below[0] - below[-1], "*": below[0] * below[-1], "<": below[0] < below[-1]}[word]


class Worths(Checks):

    def worth(self, key, expression, number):
        for database in [DATABASE, turned_about(DATABASE)]:
            found = self.told(worth, SCHEMA, database, "t", key, expression)
            self.assertEqual((type(found), found), (type(number), number), (key, expression))

    def test_plain(self):
        for key, expression, number in [
                (1, one(-5), -5), (1, one(10 ** 39), 10 ** 39), (7, KEY, 7), (1, A, 10), (3, A, -30), (2, B, 77), (3, C, None),
                (1, ("+", A, KEY), 11), (1, ("-", KEY, A), -9), (3, ("*", A, KEY), -90), (1, ("-", ("-", A, one(1)), one(2)), 7),
                (1, ("-", A, ("-", one(1), one(2))), 11), (3, ("*", ("+", A, KEY), ("-", A, KEY)), (-27) * (-33)),
                (1, ("+", A, A), 20), (1, ("*", one(0), A), 0)]:
            self.worth(key, expression, number)

    def test_ways(self):
        for key, way, number in [
                (3, ("plus", 5), -25), (3, ("turned",), 30), (3, ("times", 4), -120), (3, ("over", 7), -5), (3, ("rest", 7), 5),
                (1, ("list", tuple(range(100, 111))), 110), (1, ("list", tuple(range(100, 110))), None),
                (3, ("list", (1,) * 1000), None)]:
            self.worth(key, ("by", way, A), number)
        self.worth(1, ("by", ("over", 3), ("by", ("plus", 1), A)), 3)
        self.worth(1, ("by", ("plus", 1), ("by", ("over", 3), A)), 4)

    def test_none_makes_none(self):
        for expression in [NONE, ("+", NONE, A), ("+", A, NONE), ("-", NONE, A), ("-", A, NONE), ("*", NONE, one(0)),
                           ("*", one(0), NONE), ("by", ("plus", 1), NONE), ("by", ("list", (1,)), NONE), ("+", NONE, NONE),
                           ("by", ("turned",), ("+", one(1), ("by", ("rest", 5), NONE))), ("by", ("times", 5), NONE)]:
            self.worth(1, expression, None)
        self.worth(3, ("+", C, one(1)), None)

    def test_via(self):
        for key, expression, number in [
                (1, ("via", "b", A), 20), (1, ("via", "b", KEY), 2), (1, ("via", "c", ("col", "z")), 8), (1, ("via", "c", KEY), 4),
                (1, ("via", "c", ("via", "a", A)), 20), (1, ("via", "c", ("via", "a", ("via", "c", ("col", "z")))), 7),
                (7, ("via", "b", ("via", "b", A)), 40), (8, ("via", "b", ("via", "b", KEY)), 2),
                (1, ("+", ("via", "b", ("+", A, KEY)), ("+", A, KEY)), 33), (1, ("-", A, ("via", "b", A)), -10),
                (1, ("via", "b", ("-", KEY, A)), -18), (1, ("*", ("via", "c", KEY), ("via", "b", KEY)), 8),
                (1, ("by", ("times", 2), ("via", "b", ("by", ("plus", 1), A))), 42), (1, ("via", "b", one(6)), 6),
                (1, ("+", ("via", "b", B), B), 79)]:
            self.worth(key, expression, number)

    def test_via_to_nothing(self):
        for key, expression in [
                (3, ("via", "c", KEY)), (3, ("via", "c", one(1))), (3, ("via", "c", ("col", "z"))), (2, ("via", "b", one(1))),
                (2, ("via", "b", ("via", "b", A))), (7, ("via", "c", ("col", "z"))), (2, ("via", "c", ("via", "a", one(1)))),
                (8, ("via", "c", ("via", "a", A))), (1, ("via", "b", ("via", "b", A))), (3, ("+", ("via", "c", one(1)), one(1))),
                (1, ("via", "c", ("via", "a", ("via", "b", KEY)))), (3, ("via", "c", ("+", ("col", "z"), one(1)))),
                (3, ("via", "c", ("via", "a", ("via", "b", A)))), (3, ("via", "b", ("via", "b", ("+", A, KEY))))]:
            self.worth(key, expression, None)
        self.worth(3, ("via", "b", A), 20)

    def holds(self, key, condition, truth):
        for database in [DATABASE, turned_about(DATABASE)]:
            self.assertIs(self.told(holds, SCHEMA, database, "t", key, condition), truth, (key, condition))

    def test_comparisons(self):
        for condition, truth in [
                (ALWAYS, True), (("<", one(1), one(2)), True), (("<", one(2), one(2)), False), (("<", one(3), one(2)), False),
                (("<", NONE, one(2)), False), (("<", one(2), NONE), False), (("<", NONE, NONE), False),
                (("=", one(2), one(2)), True), (("=", one(2), one(1)), False), (("=", NONE, NONE), True),
                (("=", NONE, one(0)), False), (("=", one(0), NONE), False), (("none", NONE), True), (("none", one(0)), False),
                (("<", KEY, A), True), (("<", A, KEY), False), (("=", ("via", "b", KEY), B), True),
                (("<", A, ("via", "b", A)), True), (("none", ("via", "b", ("via", "b", KEY))), True)]:
            self.holds(1, condition, truth)
        self.holds(3, ("none", C), True)
        self.holds(3, ("none", ("via", "c", one(1))), True)
        self.holds(2, ("=", ("via", "b", A), NONE), True)
        self.holds(7, ("none", C), False)

    def test_joined(self):
        for left, one_truth in [(ALWAYS, True), (NEVER, False)]:
            self.holds(1, ("not", left), not one_truth)
            for right, other_truth in [(ALWAYS, True), (NEVER, False), (("<", KEY, A), True), (("none", A), False)]:
                self.holds(1, ("and", left, right), one_truth and other_truth)
                self.holds(1, ("or", left, right), one_truth or other_truth)
                self.holds(1, ("not", ("and", left, ("not", right))), not one_truth or other_truth)

    def test_worth_in(self):
        columns = ("a", "b", "c")
        for expression, number in [(A, 5), (B, None), (C, -7), (KEY, 3), (one(9), 9), (("*", KEY, A), 15), (("+", A, B), None),
                                   (("-", C, A), -12), (("by", ("list", (4, 5)), ("-", KEY, one(2))), 5),
                                   (("by", ("over", 2), C), -4)]:
            self.assertEqual(self.told(worth_in, columns, 3, (5, None, -7), expression), number)
        self.assertEqual(self.told(worth_in, (), -8, (), KEY), -8)
        self.assertEqual(self.told(worth_in, ("c", "a"), 0, (1, 2), A), 2)
        for condition, truth in [(("none", B), True), (("none", A), False), (("<", C, KEY), True), (("=", B, NONE), True),
                                 (("and", ("none", A), ALWAYS), False), (("or", ("none", A), ("not", ("=", C, A))), True),
                                 (ALWAYS, True), (("not", ("<", A, B)), True)]:
            self.assertIs(self.told(holds_in, columns, 3, (5, None, -7), condition), truth)
        self.assertIs(self.told(holds_in, (), 3, (), ("<", KEY, one(3))), False)

    def test_deep(self):
        expression, condition = B, ALWAYS
        for _ in range(700):
            expression, condition = ("+", expression, one(1)), ("not", condition)
        self.assertEqual(worth(SCHEMA, DATABASE, "t", 1, expression), 702)
        self.assertIs(holds(SCHEMA, DATABASE, "t", 1, condition), True)
        self.assertIs(holds_in((), 1, (), ("not", condition)), False)

    def test_at_random(self):
        nones, numbers, truths = 0, 0, {True: 0, False: 0}
        for seed in range(300):
            teller = Teller(seed)
            for table in ["t", "u"]:
                columns = teller.columns(SCHEMA, table)
                for key in DATABASE[table]:
                    expression, condition = teller.expression(columns), teller.condition(columns)
                    found = worth(SCHEMA, DATABASE, table, key, expression)
                    self.assertEqual(found, told(SCHEMA, DATABASE, table, key, expression), (table, key, expression))
                    holding = holds(SCHEMA, DATABASE, table, key, condition)
                    self.assertIs(holding, told(SCHEMA, DATABASE, table, key, condition), (table, key, condition))
                    nones, numbers, truths[holding] = nones + (found is None), numbers + (found is not None), truths[holding] + 1
                    if "via" not in repr(expression):
                        names = tuple(columns)
                        self.assertEqual(worth_in(names, key, DATABASE[table][key], expression), found)
                    if "via" not in repr(condition):
                        self.assertIs(holds_in(tuple(columns), key, DATABASE[table][key], condition), holding)
        self.assertGreater(min(nones, numbers, truths[True], truths[False]), 300)


if __name__ == "__main__":
    unittest.main()
