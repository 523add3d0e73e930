"""[30] and [31]: the WIDE and the narrow side, and what each tells of the other; of [6] and [34] what is of these."""

import unittest

from everyversion.changes import CHANGES, child_by
from everyversion.databases import is_right
from everyversion.forms import is_database, is_schema
from everyversion.refusals import refusal
from everyversion.sides import agree, full, hidden, narrowed, wide_side
from lives import sides_of, taken_changes
from samples import ALWAYS, News, turned_about

INT, A, KEY = ("int",), ("col", "a"), ("key",)
P = ((("a", INT), ("b", ("below", 12)), ("m", ("may", "p"))), ALWAYS)
Q = ((("n", ("may", "p")), ("r", ("ref", "p")), ("s", ("ref", "q"))), ALWAYS)
SCHEMA = ((("p", P), ("q", Q)), ())
ROWS = {"p": {-1: (9, 3, None), 0: (-7, 11, 0), 5: (2, 0, -1)}, "q": {2: (5, -1, 3), 3: (None, 0, 3)}}


def table(columns, check=ALWAYS):
    return (tuple(sorted(columns.items())), check)


def schema(tables, *rules):
    return (tuple(sorted(tables.items())), tuple(sorted(rules)))


class Sides(News):

    def tells(self, parent, change, wide_is, wide, narrow, beside):
        """See what a WIDE DATABASE tells of the narrow side, what is HIDDEN, and the contrary."""
        self.assertTrue(is_schema(parent))
        self.assertIsNone(refusal(parent, change))
        child = child_by(parent, change)
        broad, slim = (parent, child) if wide_is == "parent" else (child, parent)
        self.assertTrue(is_database(broad, wide) and is_right(broad, wide), wide)
        self.assertTrue(is_database(slim, narrow) and is_right(slim, narrow), narrow)
        self.assertEqual(self.told(wide_side, parent, change), wide_is)
        self.assertEqual(self.new(narrowed, parent, change, wide), narrow)
        self.assertEqual(self.new(narrowed, parent, change, turned_about(wide)), narrow)
        self.assertEqual(repr(self.new(hidden, parent, change, turned_about(wide))), repr(beside))
        self.assertEqual(self.new(full, parent, change, narrow, beside), wide)
        self.assertEqual(self.new(full, parent, change, turned_about(narrow), turned_about(beside)), wide)
        pair = (wide, narrow) if wide_is == "parent" else (narrow, wide)
        self.so(agree, parent, change, *pair)
        self.so(agree, parent, change, turned_about(pair[0]), turned_about(pair[1]))

    def both(self, parent, change, here, there):
        """See it of a change that hides nothing: each side tells the other."""
        self.tells(parent, change, "child", there, here, {})

    def test_call(self):
        self.both(SCHEMA, ("call table", "p", "z"), ROWS, {"z": ROWS["p"], "q": ROWS["q"]})
        self.both(SCHEMA, ("call table", "p", "p"), ROWS, ROWS)
        self.both(SCHEMA, ("call column", "p", "a", "c"), ROWS,
                  {"p": {-1: (3, 9, None), 0: (11, -7, 0), 5: (0, 2, -1)}, "q": ROWS["q"]})
        self.both(SCHEMA, ("call column", "p", "a", "z"), ROWS,
                  {"p": {-1: (3, None, 9), 0: (11, 0, -7), 5: (0, -1, 2)}, "q": ROWS["q"]})
        self.both(SCHEMA, ("call column", "q", "s", "a"), ROWS, {"p": ROWS["p"], "q": {2: (3, 5, -1), 3: (3, None, 0)}})

    def test_add_and_drop_column(self):
        whole = {"p": {-1: (9, 3, None), 0: (-7, 11, 0), 5: (2, 0, -1)}, "q": ROWS["q"]}
        bare = {"p": {-1: (9, None), 0: (-7, 0), 5: (2, -1)}, "q": ROWS["q"]}
        without = schema({"p": table({"a": INT, "m": ("may", "p")}), "q": Q})
        for value, beside in [(3, {0: 11, 5: 0}), (0, {-1: 3, 0: 11}), (7, {-1: 3, 0: 11, 5: 0})]:
            self.tells(SCHEMA, ("drop column", "p", "b", value), "parent", whole, bare, beside)
            self.tells(without, ("add column", "p", "b", ("below", 12), value), "child", whole, bare, beside)
        bare = {"p": {-1: (9, 3), 0: (-7, 11), 5: (2, 0)}, "q": ROWS["q"]}
        without = schema({"p": table({"a": INT, "b": ("below", 12)}), "q": Q})
        self.tells(SCHEMA, ("drop column", "p", "m", None), "parent", whole, bare, {0: 0, 5: -1})
        self.tells(without, ("add column", "p", "m", ("may", "p"), None), "child", whole, bare, {0: 0, 5: -1})
        none = {"p": {}, "q": {}}
        self.tells(SCHEMA, ("drop column", "p", "m", None), "parent", none, none, {})
        self.assertEqual(full(SCHEMA, ("drop column", "p", "b", 6), {"p": {1: (5, None)}, "q": {}}, {}), {"p": {1: (5, 6, None)}, "q": {}})

    def test_add_and_drop_table(self):
        parent = schema({"p": P})
        self.tells(SCHEMA, ("drop table", "q"), "parent", ROWS, {"p": ROWS["p"]}, {2: (5, -1, 3), 3: (None, 0, 3)})
        self.tells(parent, ("add table", "q", Q), "child", ROWS, {"p": ROWS["p"]}, {2: (5, -1, 3), 3: (None, 0, 3)})
        self.tells(SCHEMA, ("drop table", "q"), "parent", {"p": ROWS["p"], "q": {}}, {"p": ROWS["p"]}, {})
        self.tells(((), ()), ("add table", "a", ((), ALWAYS)), "child", {"a": {4: (), 5: ()}}, {}, {4: (), 5: ()})

    def test_split_and_join_columns(self):
        split = {"p": {-1: (9, None, 0, 3), 0: (-7, 0, 2, 3), 5: (2, -1, 0, 0)}, "q": ROWS["q"]}
        change = ("split column", "p", "b", 4, "y", "z")
        self.both(SCHEMA, change, ROWS, split)
        self.both(child_by(SCHEMA, change), ("join columns", "p", "y", "z", 4, "b"), split, ROWS)
        # An integer below 0: its part above is below 0, the other one is not.
        change = ("split column", "p", "a", 4, "z", "a")
        split = {"p": {-1: (1, 3, None, 2), 0: (1, 11, 0, -2), 5: (2, 0, -1, 0)}, "q": ROWS["q"]}
        self.both(SCHEMA, change, ROWS, split)
        self.both(child_by(SCHEMA, change), ("join columns", "p", "z", "a", 4, "a"), split, ROWS)
        self.both(SCHEMA, ("split column", "p", "b", 12, "a1", "b"), ROWS,
                  {"p": {-1: (9, 0, 3, None), 0: (-7, 0, 11, 0), 5: (2, 0, 0, -1)}, "q": ROWS["q"]})

    def test_change_column_both_ways(self):
        self.both(SCHEMA, ("change column", "p", "a", INT, ("plus", 10), ("plus", -10)), ROWS,
                  {"p": {-1: (19, 3, None), 0: (3, 11, 0), 5: (12, 0, -1)}, "q": ROWS["q"]})
        order = (5, 4, 3, 2, 1, 0, 11, 10, 9, 8, 7, 6)
        self.both(SCHEMA, ("change column", "p", "b", ("below", 12), ("list", order), ("list", order)), ROWS,
                  {"p": {-1: (9, 2, None), 0: (-7, 6, 0), 5: (2, 5, -1)}, "q": ROWS["q"]})

    def test_change_column_one_way(self):
        narrow = {"p": {-1: (9, 1, None), 0: (-7, 5, 0), 5: (2, 0, -1)}, "q": ROWS["q"]}
        self.tells(SCHEMA, ("change column", "p", "b", ("below", 6), ("over", 2), ("times", 2)), "parent", ROWS, narrow, {-1: 3, 0: 11})
        halved = child_by(SCHEMA, ("change column", "p", "b", ("below", 6), ("over", 2), ("times", 2)))
        self.tells(halved, ("change column", "p", "b", ("below", 12), ("times", 2), ("over", 2)), "child", ROWS, narrow, {-1: 3, 0: 11})
        # The narrow value of 11, 1, is led to 3 by a way of its own.
        way, back = ("list", (0, 3, 6, 9)), ("list", (0, 2, 3, 1, 2, 3, 2, 1, 2, 3, 1, 1))
        narrow = {"p": {-1: (9, 1, None), 0: (-7, 1, 0), 5: (2, 0, -1)}, "q": ROWS["q"]}
        few = schema({"p": table({"a": INT, "b": ("below", 4), "m": ("may", "p")}), "q": Q})
        self.tells(few, ("change column", "p", "b", ("below", 12), way, back), "child", ROWS, narrow, {0: 11})
        self.tells(SCHEMA, ("change column", "p", "b", ("below", 4), back, way), "parent", ROWS, narrow, {0: 11})
        rest = {"p": {-1: (4, 3, None), 0: (3, 11, 0), 5: (2, 0, -1)}, "q": ROWS["q"]}
        self.tells(SCHEMA, ("change column", "p", "a", ("below", 5), ("rest", 5), ("plus", 0)), "parent", ROWS, rest, {-1: 9, 0: -7})

    def test_move_keys(self):
        moved = {"p": {99: (9, 3, None), 100: (-7, 11, 100), 105: (2, 0, 99)}, "q": {2: (105, 99, 3), 3: (None, 100, 3)}}
        self.both(SCHEMA, ("move keys", "p", 100), ROWS, moved)
        self.both(SCHEMA, ("move keys", "p", -100), moved, ROWS)
        self.both(SCHEMA, ("move keys", "q", -3), ROWS, {"p": ROWS["p"], "q": {-1: (5, -1, 0), 0: (None, 0, 0)}})
        # Keys that lie one beside the other.
        self.both(SCHEMA, ("move keys", "p", 1), ROWS, {"p": {0: (9, 3, None), 1: (-7, 11, 1), 6: (2, 0, 0)}, "q": {2: (6, 0, 3), 3: (None, 1, 3)}})

    def test_split_and_join_tables(self):
        alone = schema({"p": P, "q": table({"a": INT, "m": ("may", "p")}, ("<", A, ("num", 50)))})
        rows = {"p": ROWS["p"], "q": {1: (3, None), 2: (9, 5), 3: (4, 5), 4: (-8, None)}}
        for one, other in [("few", "more"), ("z", "b"), ("q", "b"), ("b", "q")]:
            for condition, firsts in [(("<", A, ("num", 4)), (1, 4)), (("none", ("col", "m")), (1, 4)), (ALWAYS, (1, 2, 3, 4)),
                                      (("not", ALWAYS), ()), (("<", KEY, ("num", 4)), (1, 2, 3))]:
                change = ("split table", "q", condition, one, other)
                parts = {"p": ROWS["p"], one: {key: rows["q"][key] for key in firsts},
                         other: {key: row for key, row in rows["q"].items() if key not in firsts}}
                self.both(alone, change, rows, parts)
                self.both(child_by(alone, change), ("join tables", one, other, "q"), parts, rows)

    def test_part_table_and_put_together(self):
        for columns, kept, parted in [(("b",), (0, 2), (1,)), (("a", "m"), (1,), (0, 2)), (("a", "b", "m"), (), (0, 1, 2))]:
            for name in ["a", "x"]:
                change = ("part table", "p", columns, name)
                parts = {"p": {key: tuple(row[at] for at in kept) for key, row in ROWS["p"].items()},
                         name: {key: tuple(row[at] for at in parted) for key, row in ROWS["p"].items()}, "q": ROWS["q"]}
                self.both(SCHEMA, change, ROWS, parts)
                self.both(child_by(SCHEMA, change), ("put together", "p", name), parts, ROWS)

    def test_agree(self):
        half = ("change column", "p", "b", ("below", 6), ("over", 2), ("times", 2))
        narrow = {"p": {-1: (9, 1, None), 0: (-7, 5, 0), 5: (2, 0, -1)}, "q": ROWS["q"]}
        self.so(agree, SCHEMA, half, ROWS, narrow)
        for other in [{"p": {-1: (9, 2, None), 0: (-7, 5, 0), 5: (2, 0, -1)}, "q": ROWS["q"]}, {"p": {}, "q": {}}, ROWS]:
            self.not_so(agree, SCHEMA, half, ROWS, other)
        self.not_so(agree, SCHEMA, ("move keys", "p", 1), ROWS, ROWS)
        self.so(agree, SCHEMA, ("move keys", "p", 0), ROWS, ROWS)
        self.not_so(agree, SCHEMA, ("drop table", "q"), ROWS, {"p": {}})
        self.so(agree, SCHEMA, ("drop table", "q"), {"p": {}, "q": {}}, {"p": {}})
        self.so(agree, schema({"p": P}), ("add table", "q", Q), {"p": ROWS["p"]}, ROWS)
        self.not_so(agree, schema({"p": P}), ("add table", "q", Q), {"p": {}}, ROWS)

    def test_at_random(self):
        words, several = set(), 0
        for life, parent, change in taken_changes(500, CHANGES):
            words.add(change[0])
            broad, slim = sides_of(parent, change)
            wide = life.database(broad)
            narrow = self.new(narrowed, parent, change, turned_about(wide))
            self.assertTrue(is_database(slim, narrow) and is_right(slim, narrow))
            beside = self.new(hidden, parent, change, turned_about(wide))
            self.assertEqual(self.new(full, parent, change, turned_about(narrow), turned_about(beside)), wide)
            several += beside != {}
            # All of a narrow one is told by what is full of it, nothing being hidden.
            narrow = life.database(slim)
            wide = full(parent, change, narrow, {})
            self.assertTrue(is_database(broad, wide) and is_right(broad, wide))
            self.assertEqual((narrowed(parent, change, wide), hidden(parent, change, wide)), (narrow, {}))
            self.so(agree, parent, change, *((wide, narrow) if wide_side(parent, change) == "parent" else (narrow, wide)))
        self.assertEqual(words, set(CHANGES))
        self.assertGreater(several, 80)


if __name__ == "__main__":
    unittest.main()
