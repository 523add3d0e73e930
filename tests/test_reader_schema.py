"""[16]: SCHEMAS read from texts, and which line is the first BAD one."""

import unittest

from everyversion.errors import NoText
from everyversion.forms import is_schema
from everyversion.reader import read_schema
from everyversion.shower import show_schema
from samples import ALWAYS, ANYTHING, SCHEMA, Reading
from texts import Teller, normal

INT = ("int",)
A, KEY = ("col", "a"), ("key",)


class Schemas(Reading):

    def reads(self, text, schema):
        self.assertEqual(self.told(read_schema, text), schema, text)
        self.assertIs(is_schema(schema), True)

    def bad_at(self, line, *lines):
        self.bad(line, read_schema, "\n".join(lines))

    def test_schemas(self):
        for text, tables, rules in [
                ("", (), ()), (" \n# table a\n", (), ()), ("table a", (("a", ((), ALWAYS)),), ()),
                ("table a\ncheck true", (("a", ((), ALWAYS)),), ()),
                ("table a\ncheck < key 3", (("a", ((), ("<", KEY, ("num", 3)))),), ()),
                ("table a\ncolumn a int\ntable b\ncolumn a int",
                 (("a", ((("a", INT),), ALWAYS)), ("b", ((("a", INT),), ALWAYS))), ()),
                ("table a\ncolumn a below 1\ncolumn b below 1000\ncolumn c may a\ncolumn d ref a\ncheck none c",
                 (("a", ((("a", ("below", 1)), ("b", ("below", 1000)), ("c", ("may", "a")), ("d", ("ref", "a"))),
                         ("none", ("col", "c")))),), ()),
                ("table a\ncolumn c ref b\ntable b\ncolumn c may a",
                 (("a", ((("c", ("ref", "b")),), ALWAYS)), ("b", ((("c", ("may", "a")),), ALWAYS))), ()),
                ("table a\ntable b\ntable c\napart a b\napart a c\napart b c\nsame a b\nsame b c",
                 tuple((name, ((), ALWAYS)) for name in "abc"),
                 (("apart", "a", "b"), ("apart", "a", "c"), ("apart", "b", "c"), ("same", "a", "b"), ("same", "b", "c"))),
                ("\n  table   a  # one\n#\n\ncolumn a  int#\ncheck none a\ntable b\n\nsame  a b",
                 (("a", ((("a", INT),), ("none", A))), ("b", ((), ALWAYS))), (("same", "a", "b"),))]:
            self.reads(text, (tables, rules))
        self.reads(show_schema(SCHEMA), SCHEMA)

    def test_bad_words(self):
        for line in ["table", "table b c", "table 2b", "table table", "table abcdefghijklm", "table B", "tables b",
                     "column", "column c", "column c below", "column c below 0", "column c below 1001", "column c below none",
                     "column c below 05", "column c below -1", "column c int 5", "column c int int", "column c ref",
                     "column c ref a a", "column c may", "column c may 5", "column c ref key", "column int int", "column 5 int",
                     "column c below a", "column c num 5", "column c", "columns c int", "c int", "check", "check key",
                     "check true true", "check none", "check a", "check 5", "check < a", "check none c", "check none via b key",
                     "check < a via b a", "check and true", "check none 007", "checks true", "check none a a", "apart", "apart a",
                     "apart a z z", "same a", "same", "beside a z", "apart a 5", "apart key z", "rule apart a z",
                     "row a 7", "add a 7 1 none", "true", "5", "a", "#a table", "from 0 drop table a"]:
            lines = ["table a", "column a int", "column b may a", line, "table z"]
            if line[0] != "#":
                self.bad_at(3, *lines)
                self.bad_at(6, "", "table a", "column a int", " ", "column b may a", "#", line, "# x", "bad", "table z")

    def test_columns_of_another_table_and_behind_a_check(self):
        self.bad_at(3, "table a", "column a int", "table b", "check none a")
        self.bad_at(1, "table a", "check none a", "column a int")
        self.bad_at(2, "table a", "column a int", "check none b", "column b int")
        self.reads("table a\ncolumn a int\ncheck none a", ((("a", ((("a", INT),), ("none", A))),), ()))

    def test_no_table_ahead(self):
        self.bad_at(0, "column a int")
        self.bad_at(0, "column a int", "table a")
        self.bad_at(0, "check true")
        self.bad_at(0, "check true", "table a")
        self.bad_at(0, "apart a b")
        self.bad_at(0, "same a b")

    def test_tables_out_of_order_or_twice(self):
        self.bad_at(1, "table b", "table a")
        self.bad_at(1, "table a", "table a")
        self.bad_at(2, "table a", "table c", "table b")
        self.bad_at(3, "table a", "column a int", "table b", "table a", "column b int")
        self.bad_at(4, "table b", "column a int", "check true", "# a", "table b", "table c")

    def test_columns_out_of_order_or_twice(self):
        self.bad_at(2, "table a", "column b int", "column a int")
        self.bad_at(2, "table a", "column b int", "column b below 5")
        self.bad_at(3, "table a", "column a int", "column c int", "column b int")
        self.bad_at(3, "table a", "column a int", "column a2 int", "column a int")

    def test_checks_once_and_behind_columns(self):
        self.bad_at(2, "table a", "check true", "check true")
        self.bad_at(2, "table a", "check none key", "check none key")
        self.bad_at(2, "table a", "check true", "column a int")
        self.bad_at(3, "table a", "column a int", "check none a", "column b int", "check true")
        self.bad_at(3, "table a", "column a int", "check none a", "check none a", "column b int")
        self.reads("table a\ncheck true\ntable b\ncheck true", ((("a", ((), ALWAYS)), ("b", ((), ALWAYS))), ()))

    def test_rules_out_of_order_or_twice(self):
        ahead = ("table a", "table b", "table c")
        self.bad_at(4, *ahead, "apart a b", "apart a b")
        self.bad_at(4, *ahead, "apart a c", "apart a b")
        self.bad_at(4, *ahead, "apart b c", "apart a c")
        self.bad_at(4, *ahead, "same a b", "apart a c")
        self.bad_at(5, *ahead, "apart a b", "same a b", "same a b")
        self.bad_at(5, *ahead, "apart a b", "same b c", "same a b")

    def test_rules_of_two_tables_of_the_text(self):
        ahead = ("table a", "table b", "table c")
        for rule in ["apart b a", "same c a", "apart a a", "same b b", "apart a d", "same able b", "apart b z"]:
            self.bad_at(3, *ahead, rule)
            self.bad_at(4, *ahead, "apart a b", rule)

    def test_behind_a_rule_the_latter_is_bad(self):
        ahead = ("table a", "column a int", "table b", "apart a b")
        for line in ["table c", "column c int", "check true", "table a", "table b", "column b int", "check none a"]:
            self.bad_at(4, *ahead, line)
            self.bad_at(5, *ahead, "same a b", line)
        # A rule may name a table whose line stands behind: that line is BAD, not the rule.
        self.bad_at(2, "table a", "apart a b", "table b")
        self.bad_at(1, "apart a b", "table a", "table b")
        self.bad_at(4, "table a", "same a b", "", "#", "table b")
        self.bad_at(1, "table a", "apart a b", "table b c")
        self.bad_at(1, "table a", "apart a b", "column b int")

    def test_sorts_of_tables(self):
        for word in ["ref", "may"]:
            self.bad_at(1, "table a", f"column c {word} b")
            self.bad_at(1, "table a", f"column c {word} b", "column b int", "table c")
            # The line of the table may stand behind, or be BAD itself.
            self.reads(f"table a\ncolumn c {word} b\ntable b",
                       ((("a", ((("c", (word, "b")),), ALWAYS)), ("b", ((), ALWAYS))), ()))
            self.bad_at(3, "table b", f"column c {word} a", "column d int", "table a")
            self.bad_at(2, "table a", f"column c {word} b", "check none d", "table b")
            self.bad_at(4, "table a", f"column c {word} b", "table c", "# b", "table b")
            self.bad_at(3, "table a", f"column c {word} b", "table c", "apart c a", "table b")
            self.bad_at(4, "table a", f"column c {word} b", "table c", "apart a c", "table b")
            # It is a line of just these words.
            self.bad_at(1, "table a", f"column c {word} b", "table b c")
            self.bad_at(1, "table a", f"column c {word} b", "table b int", "table")
            self.bad_at(1, "table a", f"column c {word} b", "# table b")
            self.bad_at(1, "table a", f"column c {word} b", "table c # table b")
            self.bad_at(1, "table a", f"column c {word} b", "tables b", "column b int", "a b")
            self.bad_at(1, "table a", f"column c {word} 2b", "table 2b")
            self.bad_at(1, "table a", f"column c {word} key", "table key")
            self.reads(f"table a\ncolumn c {word} b\n  table   b # c",
                       ((("a", ((("c", (word, "b")),), ALWAYS)), ("b", ((), ALWAYS))), ()))

    def test_first_bad_line(self):
        self.bad_at(2, "", "table a", "bad", "bad", "table a")
        self.bad_at(0, "bad", "table a", "table a")
        self.bad_at(3, "table a", "column a int", "check none a", "check bad", "column b", "table a")

    def test_wrong(self):
        for thing in ANYTHING:
            if not isinstance(thing, str):
                self.wrong(0, read_schema, thing)
        for text in ["a", "int", "true", "key"]:
            self.bad(0, read_schema, text)

    def test_deep(self):
        text = "table t\ncheck " + "not " * 700 + "true"
        self.assertEqual(show_schema(read_schema(text)), text)
        self.bad_at(1, "table t", "check < " + "+ " * 1480)

    def test_at_random(self):
        read, unread = 0, 0
        for seed in range(400):
            teller = Teller(seed)
            text = show_schema(teller.schema())
            for _ in range(6):
                other = teller.spoiled(text)
                try:
                    made = read_schema(other)
                    self.assertIs(is_schema(made), True)
                    shown = [line for line in normal(other).split("\n") if line != "check true"]
                    self.assertEqual(show_schema(made).split("\n"), shown if shown else [""])
                    read += 1
                except NoText as error:
                    unread += 1
                    lines = other.split("\n")
                    self.bad(error.line, read_schema, other)
                    # No line ahead is BAD, even if of those behind just the lines of tables are left.
                    left = lines[:error.line] + [line for line in lines[error.line:] if line.split(" ")[0] == "table"]
                    try:
                        read_schema("\n".join(left))
                    except NoText as later:
                        self.assertGreaterEqual(later.line, error.line)
        self.assertGreater(read, 200)
        self.assertGreater(unread, 1000)


if __name__ == "__main__":
    unittest.main()
