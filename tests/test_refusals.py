"""[27] and [28]: why a SCHEMA refuses a CHANGE, and which REASONS are so."""

import unittest

from everyversion.changes import child_by, is_change
from everyversion.errors import NotTaken
from everyversion.forms import is_schema
from everyversion.refusals import child_schema, is_reason, refusal
from lives import Life
from samples import ALWAYS, ANYTHING, Checks, spoiled

KEY, INT = ("key",), ("int",)
A, B, M = ("col", "a"), ("col", "b"), ("col", "m")
WORDS = ("no table", "no column", "name", "sort", "value", "condition", "out", "out back", "ways", "columns", "checks",
         "not apart", "not same", "check", "referred", "rule")


def table(columns, check=ALWAYS):
    return (tuple(sorted(columns.items())), check)


def schema(tables, *rules):
    return (tuple(sorted(tables.items())), tuple(sorted(rules)))


def one(number):
    return ("num", number)


def candidates(parent, change):
    """Return many things that could be REASONS, but for the values of ways."""
    names = sorted({name for name, _ in parent[0]} | {column for _, told in parent[0] for column, _ in told[0]}
                   | {part for part in change[1:] if isinstance(part, str)} | {"nowhere"}
                   | {name for name in (change[2] if change[0] == "part table" else ())})
    sorts = {sort for _, told in parent[0] for _, sort in told[0]} | {part for part in change if isinstance(part, tuple) and part in SORTS}
    if change[0] == "add table":
        sorts |= {sort for _, sort in change[2][0]}
    pairs = [(one, other) for one in names for other in names]
    found = [(word, (name,)) for word in ("no table", "name", "condition", "check") for name in names]
    found += [(word, pair) for word in ("no column", "columns", "checks", "not apart", "not same", "referred") for pair in pairs]
    found += [("sort", (sort,)) for sort in sorted(sorts)] + [("value", (value,)) for value in (None, 0, 1, 5, -1, 99)]
    return found + [("rule", (word, *pair)) for word in ("apart", "same") for pair in pairs]


SORTS = [INT, ("below", 5), ("below", 12), ("below", 6), ("may", "t"), ("ref", "t"), ("may", "u"), ("ref", "u"), ("may", "nowhere"),
         ("ref", "nowhere")]
# t refers to itself and u, u to t; v stands alone.
T = table({"a": INT, "b": ("below", 12), "m": ("may", "t"), "r": ("ref", "u")}, ("<", A, B))
U = table({"k": ("may", "t"), "low": ("below", 5)})
V = table({"a": INT, "x": ("below", 6)}, ("and", ("<", A, one(9)), ("<", ("col", "x"), one(9))))
PARENT = schema({"t": T, "u": U, "v": V})


class Refusals(Checks):

    def refuses(self, parent, change, *reasons):
        """See what REASONS are so, but for those of ways, and that the first comes first."""
        self.assertTrue(is_schema(parent), parent)
        self.assertTrue(is_change(change), change)
        found = [thing for thing in candidates(parent, change) if is_reason(parent, change, thing) is True]
        self.assertEqual(sorted(map(repr, found)), sorted({repr(thing) for thing in reasons}), change)
        first = self.told(refusal, parent, change)
        self.assertEqual(repr(first), repr(reasons[0] if reasons else None), change)
        if reasons:
            with self.assertRaises(NotTaken) as caught:
                child_schema(parent, change)
            self.assertEqual((caught.exception.word, caught.exception.things), reasons[0])
        else:
            self.assertEqual(self.told(child_schema, parent, change), child_by(parent, change))
        for reason in reasons:
            self.so(is_reason, parent, change, reason)

    def test_no_table(self):
        gone = ("no table", ("w",))
        for change in [("call table", "w", "t"), ("drop table", "w"), ("move keys", "w", 5), ("split table", "w", ("none", A), "t", "t")]:
            self.refuses(PARENT, change, gone)
        for change in [("call column", "w", "a", "b"), ("drop column", "w", "a", None), ("split column", "w", "a", 2, "b", "b"),
                       ("change column", "w", "a", ("ref", "nowhere"), ("turned",), ("turned",)), ("part table", "w", ("a",), "t")]:
            self.refuses(PARENT, change, gone, ("no column", ("w", "a")))
        self.refuses(PARENT, ("add column", "w", "a", ("ref", "nowhere"), None), gone)
        self.refuses(PARENT, ("join columns", "w", "a", "b", 5, "c"), gone, ("no column", ("w", "a")), ("no column", ("w", "b")))
        for word, more in [("join tables", ("t",)), ("put together", ())]:
            self.refuses(PARENT, (word, "x", "w", *more), ("no table", ("x",)), gone)
            self.refuses(PARENT, (word, "w", "x", *more), gone, ("no table", ("x",)))
            self.refuses(PARENT, (word, "u", "w", *more), gone)
            self.refuses(PARENT, (word, "w", "u", *more), gone)
        self.refuses(schema({}), ("drop table", "w"), gone)

    def test_no_column(self):
        self.refuses(PARENT, ("call column", "t", "z", "a"), ("no column", ("t", "z")))
        self.refuses(PARENT, ("drop column", "t", "low", 77), ("no column", ("t", "low")))
        self.refuses(PARENT, ("split column", "t", "z", 5, "a", "a"), ("no column", ("t", "z")))
        self.refuses(PARENT, ("join columns", "t", "z", "y", 5, "a"), ("no column", ("t", "z")), ("no column", ("t", "y")))
        self.refuses(PARENT, ("join columns", "t", "a", "y", 5, "a"), ("no column", ("t", "y")))
        self.refuses(PARENT, ("join columns", "t", "z", "b", 5, "a"), ("no column", ("t", "z")))
        self.refuses(PARENT, ("join columns", "t", "z", "z", 5, "a"), ("no column", ("t", "z")))
        self.refuses(PARENT, ("change column", "t", "z", ("ref", "u"), ("plus", 1), ("plus", 1)), ("no column", ("t", "z")))
        self.refuses(PARENT, ("part table", "t", ("a", "low", "m", "z"), "u"), ("no column", ("t", "low")), ("no column", ("t", "z")))

    def test_new_names_of_tables(self):
        def clash(name):
            return ("name", (name,))
        self.refuses(PARENT, ("call table", "t", "u"), clash("u"))
        self.refuses(PARENT, ("call table", "t", "t"))
        self.refuses(PARENT, ("call table", "t", "a"))
        self.refuses(PARENT, ("add table", "v", table({})), clash("v"))
        self.refuses(PARENT, ("add table", "a", table({})))
        self.refuses(PARENT, ("split table", "v", ALWAYS, "t", "u"), clash("t"), clash("u"))
        self.refuses(PARENT, ("split table", "v", ALWAYS, "u", "t"), clash("u"), clash("t"))
        self.refuses(PARENT, ("split table", "v", ALWAYS, "w", "u"), clash("u"))
        self.refuses(PARENT, ("split table", "v", ALWAYS, "w", "w"), clash("w"))
        self.refuses(PARENT, ("split table", "v", ALWAYS, "v", "v"), clash("v"))
        self.refuses(PARENT, ("split table", "v", ALWAYS, "v", "w"))
        self.refuses(PARENT, ("split table", "v", ALWAYS, "w", "v"))
        self.refuses(PARENT, ("part table", "v", ("a", "x"), "v"), clash("v"))
        self.refuses(PARENT, ("part table", "v", ("a",), "u"), clash("u"), ("check", ("v",)))
        self.refuses(PARENT, ("part table", "u", ("k",), "a"))
        same = table({"a": INT})
        joined = schema({"p": (same[0], ("and", ALWAYS, ALWAYS)), "q": (same[0], ("and", ALWAYS, ("not", ALWAYS))), "t": same},
                        ("apart", "p", "q"))
        self.refuses(joined, ("join tables", "p", "q", "t"), clash("t"))
        for name in ["p", "q", "new"]:
            self.refuses(joined, ("join tables", "p", "q", name))

    def test_new_names_of_columns(self):
        def clash(name):
            return ("name", (name,))
        self.refuses(PARENT, ("call column", "t", "a", "b"), clash("b"))
        self.refuses(PARENT, ("call column", "t", "a", "a"))
        self.refuses(PARENT, ("call column", "t", "a", "t"))
        self.refuses(PARENT, ("call column", "t", "r", "low"))
        self.refuses(PARENT, ("add column", "t", "a", INT, 0), clash("a"))
        self.refuses(PARENT, ("split column", "v", "x", 2, "a", "y"), clash("a"))
        self.refuses(PARENT, ("split column", "v", "x", 2, "y", "a"), clash("a"))
        self.refuses(PARENT, ("split column", "v", "x", 2, "y", "y"), clash("y"))
        self.refuses(PARENT, ("split column", "v", "x", 2, "x", "x"), clash("x"))
        self.refuses(PARENT, ("split column", "v", "x", 2, "a", "a"), clash("a"))
        self.refuses(PARENT, ("split column", "v", "x", 2, "x", "y"))
        self.refuses(PARENT, ("split column", "v", "x", 2, "y", "x"))
        self.refuses(PARENT, ("split column", "t", "b", 3, "r", "m"), clash("r"), clash("m"))
        for name, reasons in [("a", ()), ("x", ()), ("y", ())]:
            self.refuses(PARENT, ("join columns", "v", "a", "x", 6, name), *reasons)
        self.refuses(PARENT, ("join columns", "t", "a", "b", 12, "r"), clash("r"))
        self.refuses(PARENT, ("join columns", "v", "x", "x", 6, "y"), clash("x"))
        self.refuses(PARENT, ("join columns", "v", "x", "x", 6, "a"), clash("a"), clash("x"))
        self.refuses(PARENT, ("join columns", "v", "x", "x", 6, "x"), clash("x"))
        # A column may have the name of its table.
        named = schema({"t": table({"a": ("below", 12), "b": ("below", 12), "t": INT})})
        for change in [("call column", "t", "a", "t"), ("split column", "t", "a", 2, "y", "t"), ("split column", "t", "a", 2, "t", "y"),
                       ("join columns", "t", "a", "b", 12, "t")]:
            self.refuses(named, change, clash("t"))
        put = schema({"p": table({"a": INT, "b": INT, "c": INT}), "q": table({"b": INT, "c": INT, "d": INT})}, ("same", "p", "q"))
        self.refuses(put, ("put together", "p", "q"), clash("b"), clash("c"))
        self.refuses(put, ("put together", "p", "p"), clash("a"), clash("b"), clash("c"), ("not same", ("p", "p")), ("rule", ("same", "p", "q")))

    def test_sorts(self):
        def wrong(sort):
            return ("sort", (sort,))
        self.refuses(PARENT, ("add column", "t", "z", ("ref", "u"), 5), wrong(("ref", "u")))
        self.refuses(PARENT, ("add column", "t", "z", ("ref", "nowhere"), None), wrong(("ref", "nowhere")), ("value", (None,)))
        self.refuses(PARENT, ("add column", "t", "z", ("may", "nowhere"), None), wrong(("may", "nowhere")))
        self.refuses(PARENT, ("add column", "t", "z", ("may", "nowhere"), 5), wrong(("may", "nowhere")), ("value", (5,)))
        for sort in [("may", "t"), ("may", "u")]:
            self.refuses(PARENT, ("add column", "t", "z", sort, None))
        self.refuses(PARENT, ("drop column", "t", "r", 5), wrong(("ref", "u")))
        self.refuses(PARENT, ("drop column", "t", "r", None), wrong(("ref", "u")), ("value", (None,)))
        self.refuses(PARENT, ("drop column", "t", "m", None))
        for column, sort in [("r", ("ref", "u")), ("m", ("may", "t"))]:
            self.refuses(PARENT, ("split column", "t", column, 1, "y", "z"), wrong(sort))
        for many, reasons in [(1, ()), (2, ()), (3, ()), (12, ()), (5, (wrong(("below", 12)),)), (24, (wrong(("below", 12)),)),
                              (1000, (wrong(("below", 12)),))]:
            self.refuses(PARENT, ("split column", "t", "b", many, "y", "z"), *reasons)
            self.refuses(PARENT, ("split column", "t", "a", many, "y", "z"))
        for change, reasons in [
                (("join columns", "t", "a", "b", 12, "z"), ()), (("join columns", "t", "a", "b", 11, "z"), (("below", 12),)),
                (("join columns", "t", "b", "a", 12, "z"), (INT,)), (("join columns", "t", "m", "r", 5, "z"), (("may", "t"), ("ref", "u"))),
                (("join columns", "t", "r", "b", 12, "z"), (("ref", "u"),)), (("join columns", "t", "r", "a", 12, "z"), (("ref", "u"), INT))]:
            self.refuses(PARENT, change, *[wrong(sort) for sort in reasons])
        for high, low, is_taken in [(10, 100, True), (1000, 1, True), (1, 1000, True), (11, 91, False), (1000, 2, False), (2, 501, False)]:
            parent = schema({"t": table({"h": ("below", high), "l": ("below", low)})})
            self.refuses(parent, ("join columns", "t", "h", "l", low, "z"), *([] if is_taken else [wrong(("below", high))]))
        turn = (("turned",), ("turned",))
        self.refuses(PARENT, ("change column", "t", "m", INT, *turn), wrong(("may", "t")))
        self.refuses(PARENT, ("change column", "t", "r", ("may", "u"), *turn), wrong(("ref", "u")), wrong(("may", "u")))
        self.refuses(PARENT, ("change column", "v", "a", ("may", "u"), *turn), wrong(("may", "u")))
        self.refuses(PARENT, ("change column", "t", "a", ("ref", "nowhere"), *turn), wrong(("ref", "nowhere")))

    def test_sorts_of_tables(self):
        for columns, reasons in [
                ({"a": ("ref", "t"), "b": ("may", "w"), "c": ("ref", "w"), "d": ("may", "u")}, ()),
                ({"a": ("ref", "t"), "b": ("may", "x"), "c": ("ref", "y")}, (("may", "x"), ("ref", "y"))),
                ({"a": ("ref", "y"), "b": ("may", "x"), "c": ("below", 5)}, (("ref", "y"), ("may", "x")))]:
            self.refuses(PARENT, ("add table", "w", table(columns)), *[("sort", (sort,)) for sort in reasons])
        self.refuses(PARENT, ("add table", "t", table({"a": ("ref", "y")})), ("name", ("t",)), ("sort", (("ref", "y"),)))

    def test_values(self):
        for sort, value, is_wanted in [(INT, 0, True), (INT, -(10 ** 39), True), (INT, None, False), (("below", 5), 0, True),
                                       (("below", 5), 4, True), (("below", 5), 5, False), (("below", 5), -1, False),
                                       (("below", 5), None, False), (("may", "u"), None, True), (("may", "u"), 0, False),
                                       (("may", "u"), 1, False)]:
            reasons = [] if is_wanted else [("value", (value,))]
            self.refuses(PARENT, ("add column", "t", "z", sort, value), *reasons)
            parent = schema({"t": table({"a": INT, "z": sort}, ("none", A)), "u": U})
            self.refuses(parent, ("drop column", "t", "z", value), *reasons)
        self.refuses(PARENT, ("add column", "t", "a", ("below", 5), 99), ("name", ("a",)), ("value", (99,)))

    def test_conditions(self):
        parent = schema({"t": table({"a": INT, "b": ("below", 12)}, ("<", A, B)), "v": V})
        for condition in [ALWAYS, ("none", B), ("<", KEY, A), ("not", ("=", A, ("by", ("plus", 1), B)))]:
            self.refuses(parent, ("split table", "t", condition, "x", "y"))
        for condition in [("none", ("col", "z")), ("none", ("col", "x")), ("not", ("and", ALWAYS, ("none", ("col", "t"))))]:
            self.refuses(parent, ("split table", "t", condition, "x", "y"), ("condition", ("t",)))
        own = schema({"t": table({"m": ("may", "t")}), "u": table({"m": ("may", "u")})}, ("same", "t", "u"))
        self.refuses(own, ("split table", "t", ("none", ("via", "m", KEY)), "u", "u"), ("name", ("u",)), ("condition", ("t",)),
                     ("referred", ("t", "m")), ("rule", ("same", "t", "u")))

    def test_columns_and_checks(self):
        # The tables of a join have the same columns, and checks with one check and one condition.
        check, condition = ("<", A, one(50)), ("=", A, one(3))
        columns = table({"a": INT})[0]
        one_check, other_check = ("and", check, condition), ("and", check, ("not", condition))
        for first, second, is_taken in [
                (one_check, other_check, True), (other_check, one_check, False), (one_check, one_check, False), (ALWAYS, ALWAYS, False),
                (("or", check, condition), ("or", check, ("not", condition)), False), (condition, ("not", condition), False),
                (one_check, ("and", condition, ("not", condition)), False), (one_check, ("and", check, ("not", check)), False),
                (("and", ALWAYS, ("not", condition)), ("and", ALWAYS, ("not", ("not", condition))), True),
                (("and", ALWAYS, ("not", condition)), ("and", ALWAYS, condition), False)]:
            reasons = [] if is_taken else [("checks", ("p", "q"))]
            parent = schema({"p": (columns, first), "q": (columns, second)}, ("apart", "p", "q"))
            self.refuses(parent, ("join tables", "p", "q", "t"), *reasons)
            parent = schema({"p": (columns, second), "q": (columns, first)}, ("apart", "p", "q"))
            self.refuses(parent, ("join tables", "q", "p", "t"), *[("checks", ("q", "p")) for _ in reasons])
        for other in [{"a": ("below", 5)}, {"b": INT}, {"a": INT, "b": INT}, {}]:
            parent = schema({"p": (columns, ("and", ALWAYS, ALWAYS)), "q": table(other, ("and", ALWAYS, ("not", ALWAYS)))})
            self.refuses(parent, ("join tables", "p", "q", "t"), ("columns", ("p", "q")), ("not apart", ("p", "q")))
            self.refuses(parent, ("join tables", "q", "p", "t"), ("columns", ("q", "p")), ("checks", ("q", "p")), ("not apart", ("q", "p")))
        parent = schema({"p": table({"a": INT}), "q": table({}), "r": table({})}, ("same", "p", "q"), ("same", "q", "r"))
        self.refuses(parent, ("put together", "p", "q"), ("columns", ("p", "q")), ("rule", ("same", "q", "r")))
        self.refuses(parent, ("put together", "q", "p"))
        self.refuses(parent, ("put together", "r", "q"), ("columns", ("r", "q")), ("rule", ("same", "p", "q")))

    def test_rules_wanted(self):
        tables = {"p": table({"a": INT}, ("and", ALWAYS, ALWAYS)), "q": table({"a": INT}, ("and", ALWAYS, ("not", ALWAYS))), "r": table({})}
        join = ("join tables", "p", "q", "t")
        self.refuses(schema(tables, ("apart", "p", "q")), join)
        self.refuses(schema(tables), join, ("not apart", ("p", "q")))
        self.refuses(schema(tables, ("same", "p", "q")), join, ("not apart", ("p", "q")), ("rule", ("same", "p", "q")))
        self.refuses(schema(tables, ("apart", "p", "r"), ("apart", "q", "r"), ("apart", "p", "q")), join, ("rule", ("apart", "p", "r")),
                     ("rule", ("apart", "q", "r")))
        self.refuses(schema(tables, ("apart", "p", "q"), ("same", "p", "q")), join, ("rule", ("same", "p", "q")))
        self.refuses(schema(tables, ("apart", "p", "q")), ("join tables", "p", "p", "t"), ("checks", ("p", "p")), ("not apart", ("p", "p")),
                     ("rule", ("apart", "p", "q")))
        tables = {"p": table({"a": INT}), "q": table({"b": INT}), "r": table({})}
        for put, pair in [(("put together", "p", "q"), ("p", "q")), (("put together", "q", "p"), ("q", "p"))]:
            self.refuses(schema(tables, ("same", "p", "q")), put)
            self.refuses(schema(tables), put, ("not same", pair))
            self.refuses(schema(tables, ("apart", "p", "q")), put, ("not same", pair), ("rule", ("apart", "p", "q")))
            gone, stays = pair[1], pair[0]
            for other, is_taken in [(("same", gone, "r"), False), (("apart", stays, "r"), True), (("same", stays, "r"), True)]:
                reasons = [] if is_taken else [("rule", other)]
                self.refuses(schema(tables, ("same", "p", "q"), other), put, *reasons)

    def test_checks_that_name(self):
        for word, told in [("drop column", (0,)), ("change column", (("below", 6), ("over", 2), ("times", 2)))]:
            for check, is_taken in [(ALWAYS, True), (("none", ("col", "b")), True), (("not", ("<", KEY, A)), False)]:
                reasons = [] if is_taken else [("check", ("t",))]
                parent = schema({"t": table({"a": ("below", 12), "b": INT}, check), "u": table({"a": INT}, ("none", A))})
                self.refuses(parent, (word, "t", "a", *told), *reasons)
        swap = ("list", (1, 0, 2))
        for new, way, back, is_taken in [(("below", 3), swap, swap, True), (("below", 3), ("plus", 0), ("plus", 0), True),
                                         (("below", 4), ("plus", 1), ("list", (0, 0, 1, 2)), False),
                                         (("below", 2), ("rest", 2), ("plus", 0), False), (("below", 6), ("times", 2), ("over", 2), False)]:
            reasons = [] if is_taken else [("check", ("t",))]
            self.refuses(schema({"t": table({"a": ("below", 3)}, ("<", A, KEY))}), ("change column", "t", "a", new, way, back), *reasons)
            self.refuses(schema({"t": table({"a": ("below", 3)})}), ("change column", "t", "a", new, way, back))
        for sort, check, is_taken in [(("may", "t"), ("none", M), False), (("may", "t"), ("none", KEY), True),
                                      (("ref", "t"), ("none", M), True), (("below", 5), ("none", M), True), (INT, ("none", M), True)]:
            reasons = [] if is_taken else [("check", ("w",))]
            told = table({"m": sort, "n": ("may", "t")}, check)
            self.refuses(PARENT, ("add table", "w", told), *reasons)
            self.refuses(schema({"t": T, "u": U, "w": told}), ("drop table", "w"), *reasons)

    def test_checks_that_part(self):
        both_ways = {"a": INT, "b": INT, "c": INT}
        ca, cb, cc, key = ("none", A), ("none", B), ("none", ("col", "c")), ("none", KEY)
        for check, columns, is_taken in [
                (ALWAYS, ("b",), True), (ca, ("b",), True), (cb, ("b",), True), (("<", A, B), ("b",), False), (("<", A, B), ("a", "b"), True),
                (("<", A, B), ("c",), True), (("and", ca, cb), ("b",), True), (("and", cb, ca), ("b",), False), (("and", ca, cb), ("a",), False),
                (("and", ca, cb), ("a", "b", "c"), True), (("and", ca, ("<", B, ("col", "c"))), ("b",), False),
                (("and", ca, ("<", B, ("col", "c"))), ("b", "c"), True), (("and", ("<", A, ("col", "c")), cb), ("b",), True),
                (("and", ("and", ca, cb), cb), ("b",), False), (("and", ca, ("and", cb, key)), ("b",), True), (("and", key, cb), ("b",), True),
                (("or", ca, cb), ("b",), False), (("and", cb, key), ("b",), True), (("and", ca, key), ("b",), True),
                (("not", ("and", ca, cb)), ("b",), False), (("and", ca, ("and", ca, cb)), ("b",), False), (("and", cc, cb), ("a",), True)]:
            reasons = [] if is_taken else [("check", ("t",))]
            self.refuses(schema({"t": table(both_ways, check)}), ("part table", "t", columns, "u"), *reasons)

    def test_referred(self):
        def leads(table_name, column):
            return ("referred", (table_name, column))
        self.refuses(PARENT, ("drop table", "t"), leads("u", "k"))
        self.refuses(PARENT, ("drop table", "u"), leads("t", "r"))
        self.refuses(PARENT, ("drop table", "v"))
        alone = schema({"t": table({"m": ("may", "t"), "r": ("ref", "t")})})
        self.refuses(alone, ("drop table", "t"))
        self.refuses(alone, ("split table", "t", ALWAYS, "p", "q"), leads("t", "m"), leads("t", "r"))
        self.refuses(PARENT, ("split table", "t", ALWAYS, "p", "q"), leads("t", "m"), leads("u", "k"))
        self.refuses(PARENT, ("split table", "t", ALWAYS, "t", "q"), leads("t", "m"), leads("u", "k"))
        self.refuses(PARENT, ("part table", "t", ("m", "r"), "w"))
        self.refuses(PARENT, ("move keys", "t", 3))
        self.refuses(PARENT, ("call table", "t", "w"))
        told = {"r": ("ref", "q"), "s": ("may", "p")}
        joined = schema({"p": table(told, ("and", ALWAYS, ALWAYS)), "q": table(told, ("and", ALWAYS, ("not", ALWAYS))),
                         "a": table({"z": ("may", "p"), "b": ("ref", "q")})}, ("apart", "p", "q"))
        self.refuses(joined, ("join tables", "p", "q", "t"), leads("a", "b"), leads("a", "z"), leads("p", "r"), leads("p", "s"),
                     leads("q", "r"), leads("q", "s"))
        put = schema({"p": table({"a": ("ref", "q"), "z": ("ref", "p")}), "q": table({"b": ("may", "q"), "y": ("ref", "p")}),
                      "r": table({"c": ("ref", "p"), "d": ("ref", "q")})}, ("same", "p", "q"))
        self.refuses(put, ("put together", "p", "q"), leads("p", "a"), leads("q", "b"), leads("r", "d"))
        self.refuses(put, ("put together", "q", "p"), leads("p", "z"), leads("q", "y"), leads("r", "c"))

    def test_rules(self):
        tables = {name: table({"a": INT}) for name in "pqr"}
        rules = [("apart", "p", "q"), ("apart", "q", "r"), ("same", "p", "q"), ("same", "p", "r")]
        for name, stand in [("p", (0, 2, 3)), ("q", (0, 1, 2)), ("r", (1, 3))]:
            reasons = [("rule", rules[at]) for at in stand]
            for change in [("drop table", name), ("move keys", name, 0), ("move keys", name, 5), ("split table", name, ALWAYS, "x", name)]:
                self.refuses(schema(tables, *rules), change, *reasons)
            for change in [("call table", name, "x"), ("part table", name, ("a",), "x"), ("add column", name, "b", INT, 0)]:
                self.refuses(schema(tables, *rules), change)
            for change in [("drop table", name), ("move keys", name, 0), ("split table", name, ALWAYS, "x", name)]:
                self.refuses(schema(tables), change)

    def test_all_in_order(self):
        """REASONS of one change come in the order of the list, those of one word in their own."""
        parent = schema({"p": table({"a": INT, "b": ("may", "q")}), "q": table({"a": ("ref", "p"), "b": ("ref", "q")}), "r": table({})},
                        ("apart", "q", "r"), ("same", "p", "r"))
        self.refuses(parent, ("join tables", "p", "q", "r"), ("name", ("r",)), ("columns", ("p", "q")), ("checks", ("p", "q")),
                     ("not apart", ("p", "q")), ("referred", ("p", "b")), ("referred", ("q", "a")), ("referred", ("q", "b")),
                     ("rule", ("apart", "q", "r")), ("rule", ("same", "p", "r")))
        self.refuses(parent, ("put together", "p", "q"), ("name", ("a",)), ("name", ("b",)), ("not same", ("p", "q")),
                     ("referred", ("p", "b")), ("referred", ("q", "b")), ("rule", ("apart", "q", "r")))
        self.refuses(parent, ("add table", "q", table({"a": ("may", "q"), "z": ("ref", "y")}, ("none", A))), ("name", ("q",)),
                     ("sort", (("ref", "y"),)), ("check", ("q",)))
        checked = schema({"p": table({"a": ("ref", "p")}, ("none", A))})
        self.refuses(checked, ("drop column", "p", "a", None), ("sort", (("ref", "p"),)), ("value", (None,)), ("check", ("p",)))
        checked = schema({"p": table({"m": ("may", "p")}, ("none", M)), "q": table({"r": ("ref", "p")})}, ("same", "p", "q"))
        self.refuses(checked, ("drop table", "p"), ("check", ("p",)), ("referred", ("q", "r")), ("rule", ("same", "p", "q")))


def lead(way, x):
    """Return where a way leads, told once more."""
    if x is None:
        return None
    if way[0] == "list":
        return dict(enumerate(way[1])).get(x)
    return {"plus": lambda: x + way[1], "turned": lambda: -x, "times": lambda: x * way[1], "over": lambda: x // way[1],
            "rest": lambda: x - x // way[1] * way[1]}[way[0]]()


def is_of(sort, x):
    return x is not None and (sort == INT or 0 <= x < sort[1])


class Ways(Checks):

    def papers(self, old, new, way, back, numbers):
        """Return the REASONS of ways among some numbers, told once more."""
        outs = [x for x in numbers if is_of(old, x) and not is_of(new, lead(way, x))]
        backs = [y for y in numbers if is_of(new, y) and not is_of(old, lead(back, y))]
        xs = [x for x in numbers if is_of(old, x) and lead(back, lead(way, x)) != x]
        ys = [y for y in numbers if is_of(new, y) and lead(way, lead(back, y)) != y]
        return [("out", (x,)) for x in outs] + [("out back", (y,)) for y in backs] + [("ways", (x, y)) for x in xs for y in ys]

    def leads(self, old, new, way, back, first, check=ALWAYS):
        parent = schema({"t": table({"a": old}, check), "u": table({})})
        change = ("change column", "t", "a", new, way, back)
        self.assertTrue(is_schema(parent) and is_change(change), change)
        self.assertEqual(repr(self.told(refusal, parent, change)), repr(first), change)
        numbers = sorted(range(-12, 13), key=lambda x: (abs(x), -x)) + [999, 1000, 1001, 1002, -1001, -1002, 10 ** 9, -(10 ** 39)]
        papers = self.papers(old, new, way, back, numbers)
        for x in numbers:
            for word in ("out", "out back"):
                self.assertIs(is_reason(parent, change, (word, (x,))), (word, (x,)) in papers, (change, word, x))
            for y in numbers:
                self.assertIs(is_reason(parent, change, ("ways", (x, y))), ("ways", (x, y)) in papers, (change, x, y))
        if first is not None and first[0] != "check":
            self.assertEqual(papers[0], first)

    def test_taken(self):
        below = [("below", n) for n in range(13)]
        for old, new, way, back in [
                (INT, INT, ("plus", 3), ("plus", -3)), (INT, INT, ("turned",), ("turned",)), (INT, INT, ("times", 7), ("over", 7)),
                (INT, INT, ("over", 7), ("times", 7)), (INT, below[5], ("rest", 5), ("plus", 0)), (below[5], INT, ("plus", 0), ("rest", 5)),
                (below[12], below[6], ("over", 2), ("times", 2)), (below[6], below[12], ("times", 2), ("over", 2)),
                (below[11], below[6], ("over", 2), ("times", 2)), (below[3], below[3], ("list", (2, 0, 1)), ("list", (1, 2, 0))),
                (below[3], below[5], ("plus", 2), ("list", (0, 0, 0, 1, 2))), (below[1], ("below", 1000), ("list", (999,)), ("times", 1)[:1] + (1,))]:
            if old == below[1]:
                back = ("list", (0,) * 1000)
            self.leads(old, new, way, back, None)

    def test_out(self):
        for old, new, way, back, first in [
                (INT, ("below", 5), ("plus", 0), ("plus", 0), ("out", (-1,))), (INT, ("below", 5), ("plus", 1), ("plus", 0), ("out", (-2,))),
                (INT, ("below", 5), ("plus", -3), ("plus", 0), ("out", (0,))), (INT, ("below", 5), ("plus", 9), ("plus", 0), ("out", (0,))),
                (INT, INT, ("list", (1, 2, 3)), ("plus", 0), ("out", (-1,))), (("below", 4), INT, ("list", (1, 2, 3)), ("plus", 0), ("out", (3,))),
                (INT, ("below", 5), ("rest", 6), ("plus", 0), ("out", (-1,))), (INT, ("below", 5), ("over", 7), ("plus", 0), ("out", (-1,))),
                (("below", 1000), ("below", 999), ("plus", 0), ("plus", 0), ("out", (999,))),
                (("below", 3), ("below", 3), ("list", (0, -1, 2)), ("plus", 0), ("out", (1,))), (INT, ("below", 5), ("rest", 5), ("plus", 0), None),
                (("below", 5), ("below", 5), ("turned",), ("turned",), ("out", (1,)))]:
            self.leads(old, new, way, back, first)

    def test_out_back(self):
        for old, new, way, back, first in [
                (("below", 5), INT, ("plus", 0), ("plus", 0), ("out back", (-1,))), (("below", 5), INT, ("plus", 3), ("plus", -3), ("out back", (0,))),
                (("below", 5), INT, ("plus", 0), ("list", (0, 1, 2, 3, 4)), ("out back", (-1,))),
                (("below", 2), ("below", 3), ("plus", 0), ("list", (0, 1)), ("out back", (2,))),
                (("below", 2), ("below", 3), ("plus", 0), ("list", (0, 1, 2)), ("out back", (2,))),
                (("below", 999), ("below", 1000), ("plus", 0), ("plus", 0), ("out back", (999,)))]:
            self.leads(old, new, way, back, first)

    def test_ways(self):
        for old, new, way, back, first in [
                (INT, INT, ("plus", 1), ("plus", 1), ("ways", (0, 0))), (INT, INT, ("times", 2), ("times", 2), ("ways", (1, 1))),
                (INT, INT, ("over", 2), ("over", 2), ("ways", (1, 1))), (INT, INT, ("rest", 3), ("rest", 5), ("ways", (-1, -1))),
                (("below", 12), ("below", 6), ("over", 2), ("plus", 0), ("ways", (1, 1))),
                (("below", 3), ("below", 3), ("list", (0, 1, 1)), ("list", (0, 2, 2)), ("ways", (1, 2))),
                (("below", 3), ("below", 3), ("list", (0, 2, 1)), ("list", (0, 2, 2)), ("ways", (1, 2))),
                (INT, INT, ("turned",), ("plus", 0), ("ways", (1, 1))), (INT, INT, ("over", 5), ("turned",), ("ways", (1, 1)))]:
            self.leads(old, new, way, back, first)

    def test_far_out(self):
        """What comes beyond all integers that are tried."""
        long = tuple(range(1000))
        self.leads(INT, ("below", 1000), ("rest", 1000), ("plus", 0), None)
        self.leads(INT, INT, ("rest", 1000), ("plus", 0), ("ways", (-1, -1)))
        self.leads(("below", 1000), INT, ("list", long), ("rest", 1000), None)
        self.leads(("below", 1000), ("below", 1000), ("list", long[::-1]), ("list", long[::-1]), None)
        self.leads(("below", 1000), ("below", 1000), ("list", long[:-1] + (998,)), ("list", long[:-1] + (998,)), ("ways", (999, 999)))
        self.leads(INT, INT, ("times", 1000), ("over", 1000), None)
        self.leads(INT, INT, ("times", 1000), ("over", 999), ("ways", (-1, 1)))

    def test_of_a_check(self):
        check = ("<", A, one(100))
        self.leads(INT, INT, ("plus", 3), ("plus", -3), None, check)
        self.leads(INT, INT, ("times", 7), ("over", 7), ("check", ("t",)), check)
        self.leads(INT, INT, ("over", 7), ("times", 7), ("check", ("t",)), check)
        self.leads(INT, INT, ("plus", 3), ("plus", 3), ("ways", (0, 0)), check)
        self.leads(("below", 5), INT, ("plus", 0), ("plus", 0), ("out back", (-1,)), check)

    def test_sorts_not_as_wanted(self):
        for old, new in [(("may", "u"), INT), (INT, ("may", "u")), (("ref", "t"), ("ref", "u"))]:
            parent = schema({"t": table({"a": old}, ("none", A)), "u": table({})})
            change = ("change column", "t", "a", new, ("plus", 1), ("plus", 1))
            for thing in [("out", (0,)), ("out back", (0,)), ("ways", (0, 0)), ("value", (None,)), ("check", ("t",)), ("value", (0,))]:
                self.not_so(is_reason, parent, change, thing)
            self.so(is_reason, parent, change, ("sort", (old if old != INT else new,)))


class AnyValue(Checks):

    def test_anything(self):
        changes = [("drop table", "t"), ("add column", "t", "z", ("below", 1), 5), ("add column", "t", "z", ("ref", "u"), 1),
                   ("change column", "v", "a", INT, ("plus", 1), ("plus", 1)), ("split table", "t", ("none", ("col", "z")), "u", "v"),
                   ("join tables", "t", "u", "v"), ("drop table", "w"), ("call table", "v", "x")]
        for change in changes:
            for thing in ANYTHING + [(word, told) for word in WORDS for told in ANYTHING] + [(told, ("t",)) for told in ANYTHING]:
                if thing not in [("value", (5,)), ("no table", ("w",)), ("columns", ("t", "u")), ("ways", (1, 2))]:
                    self.not_so(is_reason, PARENT, change, thing)

    def test_truths_are_no_integers(self):
        parent = schema({"t": table({"a": ("below", 2), "r": ("ref", "t")})})
        for value, sort in [(1, ("below", 1)), (0, ("may", "t"))]:
            change = ("add column", "t", "z", sort, value)
            self.so(is_reason, parent, change, ("value", (value,)))
            self.not_so(is_reason, parent, change, ("value", (bool(value),)))
        change = ("split column", "t", "a", 3, "x", "y")
        parent = schema({"t": table({"a": ("below", 1)})})
        self.so(is_reason, parent, change, ("sort", (("below", 1),)))
        self.not_so(is_reason, parent, change, ("sort", (("below", True),)))
        parent = schema({"t": table({"a": ("below", 2)})})
        change = ("change column", "t", "a", ("below", 2), ("plus", 1), ("plus", 1))
        self.so(is_reason, parent, change, ("out", (1,)))
        self.not_so(is_reason, parent, change, ("out", (True,)))
        self.so(is_reason, parent, change, ("out back", (1,)))
        self.not_so(is_reason, parent, change, ("out back", (True,)))
        self.so(is_reason, parent, change, ("ways", (0, 1)))
        for pair in [(False, 1), (0, True), (False, True), [0, 1], (0,), (0, 1, 1), (0, None), (None, 0), ("0", 1), 0]:
            self.not_so(is_reason, parent, change, ("ways", pair))

    def test_at_random(self):
        words = set()
        for seed in range(500):
            life = Life(seed)
            parent = life.schema()
            change = life.change(parent)
            first = self.told(refusal, parent, change)
            if first is None:
                child = child_schema(parent, change)
                self.assertTrue(is_schema(child))
                self.assertEqual(child, child_by(parent, change))
            else:
                self.so(is_reason, parent, change, first)
                words.add(first[0])
                for thing in spoiled(first):
                    is_taken = is_reason(parent, change, thing)
                    self.assertFalse(is_taken and (type(thing) is not tuple or thing[0] != first[0]))
                with self.assertRaises(NotTaken) as caught:
                    child_schema(parent, change)
                self.assertEqual((caught.exception.word, caught.exception.things), first)
            found = [thing for thing in candidates(parent, change) if is_reason(parent, change, thing)]
            places = [WORDS.index(thing[0]) for thing in found]
            if first is None:
                self.assertEqual(found, [])
            elif first[0] not in ("out", "out back", "ways"):
                self.assertIn(first, found + [first] if first[0] in ("sort", "value") else found)
                self.assertEqual(WORDS.index(first[0]), min(places + [WORDS.index(first[0])]))
        self.assertGreater(len(words), 11, words)


if __name__ == "__main__":
    unittest.main()
