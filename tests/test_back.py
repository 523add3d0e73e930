"""[29]: the CHANGE that leads back, to a SCHEMA that is ALIKE; [5]."""

import unittest

from everyversion.changes import CHANGES, child_by, is_change, named_below, named_tables
from everyversion.databases import is_right
from everyversion.forms import is_schema
from everyversion.refusals import back_change, refusal
from lives import taken_changes
from samples import ALWAYS, Checks

INT, A, KEY = ("int",), ("col", "a"), ("key",)
FEW = ("<", A, ("num", 5))
T = ((("a", INT), ("b", ("below", 12)), ("m", ("may", "u"))), ALWAYS)
U = ((("c", ("below", 4)), ("d", ("below", 5))), ("none", ("col", "c")))
ONE, OTHER = (U[0], ("and", ALWAYS, ("none", KEY))), (U[0], ("and", ALWAYS, ("not", ("none", KEY))))
SCHEMA = ((("h", U), ("s", ((), ALWAYS)), ("t", T), ("u", U), ("y", ONE), ("z", OTHER)), (("apart", "y", "z"), ("same", "h", "s")))


class Back(Checks):

    def turns(self, change, back):
        self.assertIsNone(refusal(SCHEMA, change))
        self.assertEqual(self.told(back_change, SCHEMA, change), back)
        self.assertIsNone(refusal(child_by(SCHEMA, change), back), change)

    def test_there_and_back(self):
        """What leads back leads just to the PARENT, and back from there leads the change itself."""
        for change, back in [
                (("call table", "t", "x"), ("call table", "x", "t")), (("call table", "t", "t"), ("call table", "t", "t")),
                (("call column", "t", "a", "x"), ("call column", "t", "x", "a")),
                (("add column", "t", "x", ("below", 7), 6), ("drop column", "t", "x", 6)),
                (("add column", "s", "x", ("may", "t"), None), ("drop column", "s", "x", None)),
                (("drop column", "t", "a", -5), ("add column", "t", "a", INT, -5)),
                (("drop column", "t", "b", 11), ("add column", "t", "b", ("below", 12), 11)),
                (("drop column", "t", "m", None), ("add column", "t", "m", ("may", "u"), None)),
                (("add table", "x", T), ("drop table", "x")), (("drop table", "t"), ("add table", "t", T)),
                (("split column", "t", "b", 3, "x", "w"), ("join columns", "t", "x", "w", 3, "b")),
                (("split column", "t", "a", 1000, "x", "a"), ("join columns", "t", "x", "a", 1000, "a")),
                (("change column", "t", "b", ("below", 6), ("over", 2), ("times", 2)),
                 ("change column", "t", "b", ("below", 12), ("times", 2), ("over", 2))),
                (("split table", "t", FEW, "w", "x"), ("join tables", "w", "x", "t")),
                (("join tables", "y", "z", "w"), ("split table", "w", ("none", KEY), "y", "z")),
                (("part table", "t", ("a", "m"), "x"), ("put together", "t", "x")),
                (("put together", "s", "h"), ("part table", "s", ("c", "d"), "h"))]:
            self.turns(change, back)
            child = child_by(SCHEMA, change)
            self.assertEqual(self.told(back_change, child, back), change)
            self.assertEqual(child_by(child, back), SCHEMA)

    def test_back_to_one_that_is_alike(self):
        """Checks may be told with more words then."""
        self.turns(("change column", "t", "a", INT, ("plus", 3), ("plus", -3)), ("change column", "t", "a", INT, ("plus", -3), ("plus", 3)))
        self.turns(("move keys", "t", 100), ("move keys", "t", -100))
        self.turns(("move keys", "t", 0), ("move keys", "t", 0))
        self.turns(("join columns", "u", "c", "d", 5, "x"), ("split column", "u", "x", 5, "c", "d"))
        self.turns(("part table", "u", ("d",), "x"), ("put together", "u", "x"))

    def test_alike(self):
        """The change that leads back is taken, and what it leads to has the same tables, and the same RIGHT DATABASES."""
        words, checks = set(), 0
        for life, parent, change in taken_changes(600, CHANGES):
            words.add(change[0])
            child = child_by(parent, change)
            back = self.told(back_change, parent, change)
            self.assertTrue(is_change(back))
            self.assertIsNone(refusal(child, back), (parent, change))
            again = child_by(child, back)
            self.assertTrue(is_schema(again))
            self.assertEqual([(name, told[0]) for name, told in again[0]], [(name, told[0]) for name, told in parent[0]])
            self.assertEqual(again[1], parent[1])
            self.assertEqual((named_tables(back), named_below(back)), (named_below(change), named_tables(change)))
            checks += again != parent
            for _ in range(2):
                self.assertTrue(is_right(again, life.database(parent)))
                self.assertTrue(is_right(parent, life.database(again)))
            wrong = {table: {key: life.row(parent, table) for key in range(3)} for table, _ in parent[0]}
            self.assertEqual(is_right(again, wrong), is_right(parent, wrong))
        self.assertEqual(words, set(CHANGES))
        self.assertGreater(checks, 10)


if __name__ == "__main__":
    unittest.main()
