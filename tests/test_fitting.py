"""[32], [33] and [34]: what is HIDDEN fitted to a narrow DATABASE, and DATABASES carried over; [6]."""

import unittest

from everyversion.changes import CHANGES, child_by
from everyversion.databases import empty, is_right
from everyversion.fitting import carried, first_carried, fits, fitted
from everyversion.forms import is_database
from everyversion.refusals import refusal
from everyversion.sides import agree, full, hidden, narrowed, wide_side
from lives import sides_of, taken_changes
from samples import ALWAYS, ANYTHING, News, spoiled, turned_about

INT, A, KEY = ("int",), ("col", "a"), ("key",)
P = ((("a", INT), ("b", ("below", 12)), ("m", ("may", "p")), ("n", ("may", "q"))), ALWAYS)
SCHEMA = ((("p", P), ("q", ((), ALWAYS))), ())
ROWS = {"p": {-1: (9, 3, None, 8), 0: (-7, 11, 0, None), 5: (2, 0, -1, 9)}, "q": {8: (), 9: ()}}
# Rows of this one refer to each other, to p and to q.
NOTES = ((("after", ("may", "notes")), ("like", ("may", "q")), ("of", ("ref", "p")), ("on", ("ref", "notes"))), ALWAYS)

DROP_B, DROP_M, DROP_N = ("drop column", "p", "b", 3), ("drop column", "p", "m", None), ("drop column", "p", "n", None)
HALF = ("change column", "p", "b", ("below", 6), ("over", 2), ("times", 2))
ADD_NOTES = ("add table", "notes", NOTES)
DOUBLE = ("change column", "p", "b", ("below", 24), ("times", 2), ("over", 2))


class Fits(News):

    def fit(self, change, narrow, *things):
        self.assertIsNone(refusal(SCHEMA, change))
        for thing in things:
            self.so(fits, SCHEMA, change, narrow, thing)
            self.so(fits, SCHEMA, change, turned_about(narrow), turned_about(thing))
            self.assertEqual(self.new(fitted, SCHEMA, change, turned_about(thing), turned_about(narrow)), thing)
            for other in spoiled(thing):
                if other not in things:
                    self.not_so(fits, SCHEMA, change, narrow, other)

    def unfit(self, change, narrow, *things):
        for thing in things:
            self.not_so(fits, SCHEMA, change, narrow, thing)

    def test_columns(self):
        narrow = {"p": {-1: (9, None, 8), 5: (2, -1, 9)}, "q": {8: (), 9: ()}}
        self.fit(DROP_B, narrow, {}, {5: 11}, {-1: 0, 5: 4})
        self.unfit(DROP_B, narrow, {5: 3}, {5: 12}, {5: -1}, {0: 4}, {5: None}, {5: 11, 6: 1}, {5: True}, {True: 1}, {5: (1,)}, [], None)
        narrow = {"p": {1: (9, 0, 8), 5: (2, 0, 9)}, "q": {8: (), 9: ()}}
        self.fit(DROP_M, narrow, {}, {1: 1}, {1: 5, 5: 1})
        self.unfit(DROP_M, narrow, {1: 2}, {1: None}, {2: 5}, {True: 5}, {1: True}, {1: 8}, {1: 0})
        narrow = {"p": {1: (9, 0, None), 5: (2, 0, 1)}, "q": {8: (), 9: ()}}
        self.fit(DROP_N, narrow, {}, {1: 8}, {1: 9}, {1: 9, 5: 9})
        self.unfit(DROP_N, narrow, {1: 1}, {1: 5}, {1: None})
        change = ("add column", "p", "z", INT, 7)
        self.fit(change, ROWS, {}, {0: 0, 5: -(10 ** 30)}, {0: -(10 ** 30)}, {-1: 8})
        self.unfit(change, ROWS, {0: 7}, {1: 1}, {5: None}, {5: False})

    def test_changed_columns(self):
        narrow = {"p": {-1: (9, 3, None, 8), 0: (-7, 5, 0, None)}, "q": {8: ()}}
        self.fit(HALF, narrow, {}, {-1: 7}, {0: 11}, {-1: 7, 0: 11})
        self.unfit(HALF, narrow, {-1: 6}, {-1: 5}, {0: 12}, {1: 1}, {-1: None}, {-1: -1}, {0: True}, {False: 11})
        self.fit(DOUBLE, ROWS, {}, {0: 23}, {-1: 7, 0: 23, 5: 1})
        self.unfit(DOUBLE, ROWS, {0: 22}, {0: 21}, {0: 24}, {5: True}, {5: None})
        self.fit(("change column", "p", "a", INT, ("plus", 1), ("plus", -1)), ROWS, {})
        self.unfit(("change column", "p", "a", INT, ("plus", 1), ("plus", -1)), ROWS, {-1: 10}, {-1: 9}, {5: 5})

    def test_tables(self):
        fitting = {1: (2, None, -1, 1), 2: (None, 8, 5, 1)}
        self.fit(ADD_NOTES, ROWS, {}, fitting, {1: (None, 8, 5, 1)})
        self.unfit(ADD_NOTES, ROWS, {1: (2, None, -1, 1)}, {1: (None, None, -1, 1), 2: (1, 8, 7, 1)}, {1: (None, 7, -1, 1)},
                   {1: (None, None, -1, 2)}, {1: (None, None, -1)}, {1: None}, {1: [None, None, -1, 1]}, {1: (None, None, True, 1)},
                   {True: (None, None, -1, 1)}, {"1": (None, None, -1, 1)}, {1: (None, None, None, 1)}, ((1, (None, None, -1, 1)),))
        # The check of the table HOLDS as well.
        checked = ("add table", "notes", ((("a", INT),), ("<", A, KEY)))
        self.so(fits, SCHEMA, checked, ROWS, {1: (0,), 7: (6,)})
        self.unfit(checked, ROWS, {1: (0,), 7: (7,)})
        # A table that is there beside p has no rows more.
        parent = ((("p", ((), ALWAYS)), ("q", ((("r", ("ref", "p")),), ALWAYS))), ())
        self.so(fits, parent, ("drop table", "q"), {"p": {1: ()}}, {5: (1,), 6: (1,)})
        self.not_so(fits, parent, ("drop table", "q"), {"p": {1: ()}}, {5: (1,), 6: (2,)})

    def test_all_others(self):
        for change in [("call table", "p", "x"), ("call column", "p", "a", "x"), ("split column", "p", "a", 5, "x", "y"), ("move keys", "p", 3),
                       ("part table", "p", ("a",), "x"), ("join columns", "p", "a", "b", 12, "z")]:
            self.so(fits, SCHEMA, change, ROWS, {})
            self.unfit(change, ROWS, {-1: 9}, {-1: ()}, {0: {}}, [], (), None, False)

    def test_anything(self):
        for change in [DROP_B, DROP_M, HALF, ADD_NOTES, ("move keys", "p", 3)]:
            narrow = empty(child_by(SCHEMA, change)) if wide_side(SCHEMA, change) == "parent" else empty(SCHEMA)
            for thing in ANYTHING:
                if thing != {} or type(thing) is not dict:
                    self.not_so(fits, SCHEMA, change, narrow, thing)
            self.so(fits, SCHEMA, change, narrow, {})

    def test_at_random(self):
        """Of all that is nearly what is HIDDEN, what fits is HIDDEN of a RIGHT one that AGREES."""
        yes, no = 0, 0
        for life, parent, change in taken_changes(250, ["add column", "drop column", "change column", "add table", "drop table", "call table"]):
            broad, slim = sides_of(parent, change)
            wide, other = life.database(broad), life.database(slim)
            narrow, beside = narrowed(parent, change, wide), hidden(parent, change, wide)
            self.so(fits, parent, change, narrow, beside)
            self.assertEqual(self.new(fitted, parent, change, turned_about(beside), turned_about(narrow)), beside)
            for thing in spoiled(beside) + [beside]:
                for base in (narrow, other):
                    if fits(parent, change, base, thing):
                        told = full(parent, change, base, thing)
                        self.assertTrue(is_database(broad, told) and is_right(broad, told))
                        self.assertEqual((narrowed(parent, change, told), hidden(parent, change, told)), (base, thing))
                        yes += 1
                    else:
                        no += 1
        self.assertGreater(yes, 300)
        self.assertGreater(no, 300)


class Fitted(News):

    def kept(self, change, beside, narrow, left):
        self.assertEqual(self.new(fitted, SCHEMA, change, turned_about(beside), turned_about(narrow)), left)
        self.so(fits, SCHEMA, change, narrow, left)

    def test_columns(self):
        narrow = {"p": {1: (9, None, 8), 5: (2, 1, 9)}, "q": {8: (), 9: ()}}
        self.kept(DROP_B, {-1: 7, 1: 11, 3: 0, 5: 0}, narrow, {1: 11, 5: 0})
        self.kept(DROP_B, {}, narrow, {})
        self.kept(DROP_B, {1: 7}, {"p": {}, "q": {}}, {})
        narrow = {"p": {1: (9, 0, 8), 5: (2, 0, 9), 6: (0, 0, None)}, "q": {8: (), 9: ()}}
        self.kept(DROP_M, {1: 5, 5: 2, 6: 6, 7: 1, 3: 3}, narrow, {1: 5, 6: 6})
        narrow = {"p": {1: (9, 0, None), 5: (2, 0, 1), 6: (0, 0, 6)}, "q": {8: (), 9: ()}}
        self.kept(DROP_N, {1: 9, 5: 1, 6: 8, 7: 8}, narrow, {1: 9, 6: 8})

    def test_changed_columns(self):
        narrow = {"p": {1: (9, 3, None, 8), 2: (-7, 5, None, None), 3: (0, 0, None, None)}, "q": {8: ()}}
        self.kept(HALF, {1: 7, 2: 9, 3: 1, 4: 1}, narrow, {1: 7, 3: 1})
        wide = {"p": {1: (9, 3, None, 8), 2: (-7, 5, None, None), 3: (0, 0, None, None)}, "q": {8: ()}}
        self.kept(DOUBLE, {1: 7, 2: 9, 3: 1, 4: 1}, wide, {1: 7, 3: 1})

    def test_rows_fall(self):
        narrow = {"p": {5: (0, 0, None, None)}, "q": {8: ()}}
        # 4 leads to p 1, which is gone, 3 leads on to 4, 2 to 3, 1 to itself.
        rows = {1: (4, 8, 5, 1), 2: (1, 8, 5, 3), 3: (1, 8, 5, 4), 4: (1, 8, 1, 4), 6: (7, 9, 5, 1), 7: (6, None, 5, 6), 9: (None, 8, 5, 2)}
        self.kept(ADD_NOTES, rows, narrow, {1: (None, 8, 5, 1), 6: (7, None, 5, 1), 7: (6, None, 5, 6)})
        # A ring of refs stands, a ring one of which falls does not.
        rows = {1: (None, None, 5, 2), 2: (None, None, 5, 3), 3: (None, None, 5, 1), 4: (None, None, 5, 6), 6: (4, None, 4, 4)}
        self.kept(ADD_NOTES, rows, narrow, {1: (None, None, 5, 2), 2: (None, None, 5, 3), 3: (None, None, 5, 1)})
        self.kept(ADD_NOTES, rows, {"p": {}, "q": {8: ()}}, {})
        self.kept(ADD_NOTES, {}, narrow, {})
        # What falls frees a may, but takes no row with it.
        rows = {1: (2, 8, 5, 1), 2: (1, 8, 4, 1)}
        self.kept(ADD_NOTES, rows, narrow, {1: (None, 8, 5, 1)})
        # A long chain that falls from its end.
        rows = {key: (None, None, 5, key + 1) for key in range(50)}
        rows[50] = (None, None, 4, 50)
        self.kept(ADD_NOTES, rows, narrow, {})
        rows[50] = (None, None, 5, 50)
        self.kept(ADD_NOTES, rows, narrow, rows)

    def test_all_others(self):
        for change in [("call table", "p", "x"), ("move keys", "p", 3), ("change column", "p", "a", INT, ("plus", 1), ("plus", -1))]:
            self.kept(change, {}, ROWS, {})

    def test_all_that_can_be_kept(self):
        """What fits is kept, and no entry that is gone could be there besides."""
        kept, gone = 0, 0
        for life, parent, change in taken_changes(400, ["add column", "drop column", "change column", "add table", "drop table", "add table"]):
            broad, slim = sides_of(parent, change)
            beside, narrow = hidden(parent, change, life.database(broad)), life.database(slim)
            left = self.new(fitted, parent, change, turned_about(beside), turned_about(narrow))
            self.so(fits, parent, change, narrow, left)
            self.assertLessEqual(set(left), set(beside))
            for key in beside:
                if key in left:
                    kept += 1
                    may = [None] * 9 if isinstance(beside[key], int) else beside[key]
                    self.assertTrue(left[key] == beside[key] or all(x in (y, None) for x, y in zip(left[key], may)))
                else:
                    gone += 1
                    self.not_so(fits, parent, change, narrow, {**left, key: beside[key]})
        self.assertGreater(kept, 100)
        self.assertGreater(gone, 100)


class Carried(News):

    def test_carried(self):
        old = {"p": {1: (9, 3, 1, 8), 2: (-7, 11, 1, None)}, "q": {8: ()}}
        for change, new, there in [
                (DROP_B, {"p": {1: (0, 2, 8), 2: (-7, 1, None), 3: (5, None, None)}, "q": {8: ()}},
                 {"p": {1: (0, 3, 2, 8), 2: (-7, 11, 1, None), 3: (5, 3, None, None)}, "q": {8: ()}}),
                (DROP_M, {"p": {2: (-7, 11, None), 3: (5, 3, None)}, "q": {8: ()}},
                 {"p": {2: (-7, 11, None, None), 3: (5, 3, None, None)}, "q": {8: ()}}),
                (DROP_N, {"p": {1: (9, 3, 1)}, "q": {}}, {"p": {1: (9, 3, 1, None)}, "q": {}}),
                (HALF, {"p": {1: (9, 1, 1, 8), 2: (0, 4, None, None), 3: (0, 4, None, None)}, "q": {8: ()}},
                 {"p": {1: (9, 3, 1, 8), 2: (0, 8, None, None), 3: (0, 8, None, None)}, "q": {8: ()}})]:
            self.assertEqual(self.new(carried, SCHEMA, change, "child", turned_about(new), turned_about(old)), there)
            self.assertEqual(self.new(carried, SCHEMA, change, "parent", there, turned_about(new)), new)

    def test_table_carried(self):
        old = {**ROWS, "notes": {1: (2, 9, -1, 1), 2: (1, 8, 5, 1), 3: (2, None, 0, 2)}}
        new = {"p": {-1: (0, 0, None, None), 5: (2, 0, -1, 9)}, "q": {9: ()}}
        told = {**new, "notes": {1: (2, 9, -1, 1), 2: (1, None, 5, 1)}}
        self.assertEqual(self.new(carried, SCHEMA, ADD_NOTES, "parent", turned_about(new), turned_about(old)), told)
        self.assertEqual(self.new(carried, SCHEMA, ADD_NOTES, "child", turned_about(told), ROWS), new)
        self.assertEqual(self.new(first_carried, SCHEMA, ADD_NOTES, "parent", ROWS), {**ROWS, "notes": {}})
        self.assertEqual(self.new(first_carried, SCHEMA, ADD_NOTES, "child", old), ROWS)

    def test_first_carried(self):
        for change, there in [(DROP_B, {-1: (9, None, 8), 0: (-7, 0, None), 5: (2, -1, 9)}),
                              (HALF, {-1: (9, 1, None, 8), 0: (-7, 5, 0, None), 5: (2, 0, -1, 9)})]:
            self.assertEqual(self.new(first_carried, SCHEMA, change, "parent", turned_about(ROWS)), {"p": there, "q": ROWS["q"]})
        self.assertEqual(self.new(first_carried, SCHEMA, DROP_B, "child", {"p": {1: (0, None, None)}, "q": {}}), {"p": {1: (0, 3, None, None)}, "q": {}})
        self.assertEqual(self.new(first_carried, SCHEMA, HALF, "child", {"p": {1: (0, 5, None, None)}, "q": {}}),
                         {"p": {1: (0, 10, None, None)}, "q": {}})
        moved = ("move keys", "p", 10)
        self.assertEqual(self.new(first_carried, SCHEMA, moved, "parent", ROWS),
                         {"p": {9: (9, 3, None, 8), 10: (-7, 11, 10, None), 15: (2, 0, 9, 9)}, "q": ROWS["q"]})
        self.assertEqual(self.new(first_carried, SCHEMA, moved, "child", first_carried(SCHEMA, moved, "parent", ROWS)), ROWS)

    def test_at_random(self):
        words, others = set(), 0
        for life, parent, change in taken_changes(500, CHANGES):
            words.add(change[0])
            child = child_by(parent, change)
            sides = {"parent": parent, "child": child}
            side = life.one(["parent", "child"])
            there = "child" if side == "parent" else "parent"

            def agreeing(new, old):
                return agree(parent, change, *((new, old) if side == "parent" else (old, new)))
            new = life.database(sides[side])
            first = self.new(first_carried, parent, change, side, turned_about(new))
            self.assertTrue(agreeing(new, first))
            # Any old one that AGREES with some one of this side.
            old = life.database(sides[there])
            told = self.new(carried, parent, change, side, turned_about(new), turned_about(old))
            self.assertTrue(is_database(sides[there], told) and is_right(sides[there], told))
            self.assertTrue(agreeing(new, told))
            others += told not in (old, first)
            # What AGREES already stays as it was.
            self.assertEqual(carried(parent, change, side, new, told), told)
            beside = carried(parent, change, there, old, new)
            self.assertEqual(carried(parent, change, side, beside, old), old)
        self.assertEqual(words, set(CHANGES))
        self.assertGreater(others, 15)


if __name__ == "__main__":
    unittest.main()
