"""[20], [21] and [22]: rows, what is right, two DATABASES of one SCHEMA."""

import copy
import unittest

from everyversion.databases import broken, copied, empty, exchanged, is_right, item, keys_of, part_of, rows_many
from everyversion.databases import unlike_keys, with_item, with_row, without_part, without_row
from everyversion.forms import is_database
from samples import ALWAYS, SCHEMA, News, turned_about
from texts import Teller

RIGHT = {
    "person": {9: (-5, None), 2: (30, 9), -4: (0, -4)},
    "room": {10: (), 7: (), 8: ()},
    "book": {8: (0, 7, None), 7: (499, 7, 2), 10: (12, 10, -4)},
}


class Rows(News):

    def changed(self, made, **tables):
        """See that a DATABASE is RIGHT, but for some tables."""
        whole = copy.deepcopy(RIGHT)
        whole.update(tables)
        self.assertEqual(made, whole)
        self.assertIs(is_database(SCHEMA, made), True)

    def both_orders(self, function, ahead, *behind):
        """Return what a function returns of RIGHT, whatever the order of its keys."""
        self.assertEqual(self.new(function, *ahead, turned_about(RIGHT), *behind), function(*ahead, RIGHT, *behind))
        return self.new(function, *ahead, RIGHT, *behind)

    def test_empty(self):
        self.assertEqual(self.new(empty, SCHEMA), {"book": {}, "person": {}, "room": {}})
        self.assertEqual(self.new(empty, ((), ())), {})

    def test_counts(self):
        self.assertEqual(self.told(rows_many, RIGHT), 9)
        self.assertEqual(self.told(rows_many, empty(SCHEMA)), 0)
        self.assertEqual(self.told(rows_many, {}), 0)
        self.assertEqual(self.told(rows_many, {"a": {1: ()}, "b": {}}), 1)
        self.assertEqual(self.told(keys_of, RIGHT, "person"), (-4, 2, 9))
        self.assertEqual(self.told(keys_of, turned_about(RIGHT), "book"), (7, 8, 10))
        self.assertEqual(self.told(keys_of, empty(SCHEMA), "book"), ())

    def test_copied(self):
        self.changed(self.both_orders(copied, ()))
        self.assertEqual(self.new(copied, {}), {})

    def test_with_row(self):
        self.changed(self.both_orders(with_row, (), "room", 0, ()), room={0: (), 7: (), 8: (), 10: ()})
        self.changed(self.both_orders(with_row, (), "person", 99, (1, 2)), person={**RIGHT["person"], 99: (1, 2)})
        self.changed(self.both_orders(with_row, (), "person", 5, (1, 2)), person={**RIGHT["person"], 5: (1, 2)})
        self.changed(self.both_orders(with_row, (), "person", 2, (31, None)), person={**RIGHT["person"], 2: (31, None)})
        self.changed(self.both_orders(with_row, (), "person", 2, (30, 9)))

    def test_without_row(self):
        self.changed(self.both_orders(without_row, (), "person", 9), person={2: (30, 9), -4: (0, -4)})
        self.changed(self.both_orders(without_row, (), "person", 3))
        self.changed(self.both_orders(without_row, (), "room", 2))
        self.assertEqual(self.new(without_row, {"a": {1: ()}}, "a", 1), {"a": {}})

    def test_items(self):
        for table, key, column, value in [("book", 7, "pages", 499), ("book", 7, "room", 7), ("book", 7, "who", 2),
                                          ("book", 8, "who", None), ("person", -4, "age", 0), ("person", 9, "age", -5)]:
            self.assertEqual(self.told(item, SCHEMA, RIGHT, table, key, column), value)
        for column, value, row in [("pages", 3, (3, 7, 2)), ("room", 8, (499, 8, 2)), ("who", None, (499, 7, None)),
                                   ("who", 2, (499, 7, 2))]:
            made = self.both_orders(with_item, (SCHEMA,), "book", 7, column, value)
            self.changed(made, book={8: (0, 7, None), 7: row, 10: (12, 10, -4)})
        made = self.both_orders(with_item, (SCHEMA,), "person", -4, "friend", 2)
        self.changed(made, person={9: (-5, None), 2: (30, 9), -4: (0, 2)})


class Broken(News):

    def breaks(self, schema, database, *found):
        for told in [database, turned_about(database)]:
            self.assertEqual(self.new(broken, schema, told), list(found), told)
            self.assertIs(self.told(is_right, schema, told), not found)

    def test_right(self):
        self.breaks(SCHEMA, RIGHT)
        self.breaks(SCHEMA, empty(SCHEMA))
        self.breaks(((), ()), {})

    def test_refs(self):
        schema = ((("a", ((("x", ("ref", "b")), ("y", ("may", "a")), ("z", ("int",))), ALWAYS)),
                   ("b", ((("c", ("may", "b")), ("d", ("ref", "b"))), ALWAYS))), ())
        self.breaks(schema, {"a": {2: (5, None, 9), 1: (5, 2, 9)}, "b": {5: (None, 5)}})
        self.breaks(schema, {"a": {1: (6, None, 9)}, "b": {5: (None, 5)}}, ("ref", "a", 1, "x"))
        self.breaks(schema, {"a": {1: (5, 5, 9)}, "b": {5: (None, 5)}}, ("ref", "a", 1, "y"))
        self.breaks(schema, {"a": {1: (1, 1, 9)}, "b": {}}, ("ref", "a", 1, "x"))
        self.breaks(schema, {"a": {12: (0, 0, 0), -3: (0, None, 0), 4: (5, 3, 0)}, "b": {5: (0, 4), -1: (1, 5)}},
                    ("ref", "a", -3, "x"), ("ref", "a", 4, "y"), ("ref", "a", 12, "x"), ("ref", "a", 12, "y"),
                    ("ref", "b", -1, "c"), ("ref", "b", 5, "c"), ("ref", "b", 5, "d"))

    def test_checks(self):
        a = ("col", "a")
        schema = ((("s", ((("a", ("may", "s")),), ("none", a))), ("t", ((("a", ("int",)),), ("<", a, ("key",))))), ())
        self.breaks(schema, {"s": {1: (None,)}, "t": {1: (0,), 2: (1,)}})
        self.breaks(schema, {"s": {1: (1,), -1: (1,), 0: (None,)}, "t": {10: (0,), 1: (1,), -2: (5,)}},
                    ("check", "s", -1), ("check", "s", 1), ("check", "t", -2), ("check", "t", 1))

    def test_rules(self):
        tables = tuple((name, ((), ALWAYS)) for name in "abc")
        for rules, found in [
                ((), ()), ((("apart", "a", "b"),), (("apart", "a", "b", 2), ("apart", "a", "b", 10))),
                ((("apart", "a", "c"),), ()),
                ((("same", "a", "b"),), (("same", "a", "b", -1), ("same", "a", "b", 3), ("same", "a", "b", 11))),
                ((("same", "b", "c"),), tuple(("same", "b", "c", key) for key in (2, 3, 4, 10))),
                ((("apart", "a", "b"), ("apart", "b", "c"), ("same", "a", "b")),
                 (("apart", "a", "b", 2), ("apart", "a", "b", 10), ("apart", "b", "c", 11), ("same", "a", "b", -1),
                  ("same", "a", "b", 3), ("same", "a", "b", 11)))]:
            database = {"a": {10: (), 2: (), -1: ()}, "b": {3: (), 11: (), 10: (), 2: ()}, "c": {11: (), 4: ()}}
            self.breaks((tables, rules), database, *found)
        self.breaks((tables, (("same", "a", "b"),)), {"a": {1: (), 2: ()}, "b": {2: (), 1: ()}, "c": {3: ()}})

    def test_all_at_once(self):
        database = {"book": {7: (13, 4, 1), 3: (13, 8, None)}, "person": {7: (1, 5), 8: (2, None)}, "room": {8: (), 100: ()}}
        self.breaks(SCHEMA, database, ("ref", "book", 7, "room"), ("ref", "book", 7, "who"), ("ref", "person", 7, "friend"),
                    ("check", "book", 3), ("check", "book", 7), ("check", "room", 100), ("apart", "book", "person", 7),
                    ("apart", "person", "room", 8), ("same", "book", "room", 3), ("same", "book", "room", 7),
                    ("same", "book", "room", 8), ("same", "book", "room", 100))


class Two(News):

    def test_unlike_keys(self):
        other = {"book": RIGHT["book"], "person": {2: (31, 9), 9: (-5, None), 3: (0, None)}, "room": {7: (), 8: (), 10: ()}}
        self.assertEqual(self.new(unlike_keys, RIGHT, other), {"person": (-4, 2, 3)})
        self.assertEqual(self.new(unlike_keys, turned_about(other), RIGHT), {"person": (-4, 2, 3)})
        self.assertEqual(self.new(unlike_keys, RIGHT, turned_about(RIGHT)), {})
        self.assertEqual(self.new(unlike_keys, {}, {}), {})
        self.assertEqual(self.new(unlike_keys, turned_about(RIGHT), empty(SCHEMA)),
                         {"book": (7, 8, 10), "person": (-4, 2, 9), "room": (7, 8, 10)})
        self.assertEqual(self.new(unlike_keys, {"b": {0: (None,)}, "a": {1: ()}}, {"a": {}, "b": {0: (0,)}}), {"a": (1,), "b": (0,)})

    def test_exchanged(self):
        other = {"book": {}, "person": {2: (31, 9), 3: (0, None)}, "room": {7: ()}}
        for table, key, rows in [("person", 2, {9: (-5, None), 2: (31, 9), -4: (0, -4)}),
                                 ("person", 3, {9: (-5, None), 2: (30, 9), -4: (0, -4), 3: (0, None)}),
                                 ("person", 9, {2: (30, 9), -4: (0, -4)}), ("person", 4, RIGHT["person"]),
                                 ("book", 7, {8: (0, 7, None), 10: (12, 10, -4)}), ("room", 7, RIGHT["room"])]:
            made = self.new(exchanged, RIGHT, other, table, key)
            self.assertEqual(made, {**RIGHT, table: rows})
            self.assertEqual(self.new(exchanged, turned_about(RIGHT), turned_about(other), table, key), made)

    def test_one_becomes_other_in_any_order(self):
        for seed in range(60):
            teller = Teller(seed)
            one, other = teller.database(SCHEMA), teller.database(SCHEMA)
            pairs = [(table, key) for table, keys in unlike_keys(one, other).items() for key in keys]
            teller.random.shuffle(pairs)
            for table, key in pairs:
                self.assertNotEqual(one, other)
                one = exchanged(one, other, table, key)
            self.assertEqual(one, other)

    def test_part_of(self):
        for keys, part in [({}, {}), ({"room": (7, 10)}, {"room": {7: (), 10: ()}}), ({"room": ()}, {"room": {}}),
                           ({"room": (1, 2)}, {"room": {}}), ({"room": (10, 7, 11)}, {"room": {7: (), 10: ()}}),
                           ({"room": (8,), "book": (10, 9, 7), "person": (5,)},
                            {"book": {7: (499, 7, 2), 10: (12, 10, -4)}, "person": {}, "room": {8: ()}})]:
            self.assertEqual(self.new(part_of, RIGHT, keys), part)
            self.assertEqual(self.new(part_of, turned_about(RIGHT), turned_about(keys)), part)

    def test_without_part(self):
        for keys, tables in [({}, {}), ({"room": ()}, {}), ({"room": (1, 2)}, {}), ({"room": (10, 7, 11)}, {"room": {8: ()}}),
                             ({"room": (7, 8, 10)}, {"room": {}}),
                             ({"room": (8,), "book": (10, 9, 7), "person": (5,)},
                              {"book": {8: (0, 7, None)}, "room": {7: (), 10: ()}})]:
            self.assertEqual(self.new(without_part, RIGHT, keys), {**RIGHT, **tables})
            self.assertEqual(self.new(without_part, turned_about(RIGHT), turned_about(keys)), {**RIGHT, **tables})


if __name__ == "__main__":
    unittest.main()
