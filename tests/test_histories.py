"""[57] and [58]: the life of each version, told alone; [7]."""

import unittest

from everyversion.databases import is_right
from everyversion.histories import history_of, is_lived, replayed, schema_of_version
from everyversion.meanings import first_meaning, meant
from everyversion.sidebyside import happened_in, run_disk, run_meaning
from courses import course_at
from samples import ALWAYS, ANYTHING, News, spoiled, turned_about
from versions import SCHEMA, put

KEY = ("key",)
ADD = ("do", 0, (("add", "t", 7, (30,)), ("add", "t", 8, (9,))))
GROWN = ("grow", 0, ("add column", "t", "b", ("below", 5), 2))
ROWS = ("ask", ("rows", "t", ALWAYS, (("col", "a"), KEY)))
SET_A, SET_B = ("do", 0, (put("a", ("num", 5)), ROWS)), ("do", 1, (put("b", ("num", 4)), ("ask", ("count", "t", ALWAYS))))
COURSE = (
    ADD, GROWN, ("begin", 1), SET_B, ("step", ("t", 7)), SET_A, ("do", 0, (("add", "t", 7, (1,)),)), ("do", 1, ()), ("cut", 0, ()), ("step", ("t", 8)),
    ("end",), ("do", 0, (ROWS,)), ("do", 1, (("take", "t", ("=", KEY, ("num", 8))),)),
)
ALL = (True,) * len(COURSE)
TREE_SCHEMA = ((("t", ((("a", ("int",)), ("b", ("below", 5))), ALWAYS)),), ())
SCHEMAS = (SCHEMA, TREE_SCHEMA)


def takes(key):
    return ("take", "t", ("=", KEY, ("num", key)))


LIVES = (
    ({"t": {}}, (
        (0, "own", ADD[2], ()), (5, "own", SET_A[2], ([(7, (5, 7)), (8, (5, 8))],)), (11, "own", (ROWS,), ([(7, (5, 7)), (8, (5, 8))],)),
        (12, "others", (takes(8),), ()))),
    ({"t": {7: (30, 2), 8: (9, 2)}}, (
        (3, "own", SET_B[2], (2,)), (5, "others", (takes(7), takes(8), ("add", "t", 7, (5, 4)), ("add", "t", 8, (5, 4))), ()), (7, "own", (), ()),
        (12, "own", COURSE[12][2], ()))),
)


class Histories(News):

    def test_histories(self):
        for version in (0, 1):
            self.assertEqual(self.new(history_of, SCHEMA, COURSE, ALL, version), LIVES[version])
            self.assertEqual(self.told(schema_of_version, SCHEMA, COURSE, ALL, version), SCHEMAS[version])
        for version in (2, -1, 99):
            self.assertIsNone(self.told(history_of, SCHEMA, COURSE, ALL, version))
        self.assertEqual(self.new(history_of, SCHEMA, (), (), 0), ({"t": {}}, ()))
        self.assertIsNone(history_of(SCHEMA, (), (), 1))

    def test_what_did_not_happen(self):
        # A version whose grow is cut is never there; a line that is cut is none of its life.
        happened = ALL[:1] + (False,) + ALL[2:]
        self.assertIsNone(history_of(SCHEMA, COURSE, happened, 1))
        self.assertEqual([row[0] for row in history_of(SCHEMA, COURSE, happened, 0)[1]], [0, 5, 11])
        happened = ALL[:5] + (False,) + ALL[6:]
        self.assertEqual([row[:2] for row in history_of(SCHEMA, COURSE, happened, 1)[1]], [(3, "own"), (7, "own"), (12, "own")])
        self.assertEqual([row[0] for row in history_of(SCHEMA, COURSE, happened, 0)[1]], [0, 11, 12])
        self.assertEqual(history_of(SCHEMA, COURSE, (False,) + ALL[1:], 1)[0], {"t": {}})

    def test_versions_that_go(self):
        course = (ADD, GROWN, SET_B, SET_A, ("away", 1), ("do", 0, (takes(7),)), GROWN, ("do", 2, (takes(8),)), ("do", 1, ()), SET_A)
        told = (True,) * 10
        first = self.new(history_of, SCHEMA, course, told, 1)
        self.assertEqual((first[0], [row[:2] for row in first[1]]), ({"t": {7: (30, 2), 8: (9, 2)}}, [(2, "own"), (3, "others")]))
        self.assertEqual(history_of(SCHEMA, course, told, 2)[0], {"t": {8: (5, 2)}})
        self.assertEqual([row[:2] for row in history_of(SCHEMA, course, told, 2)[1]], [(7, "own")])
        self.assertEqual([row[:2] for row in history_of(SCHEMA, course, told, 0)[1]], [(0, "own"), (3, "own"), (5, "own"), (7, "others"), (9, "own")])
        # Its SCHEMA is told of a version that went away, too.
        self.assertEqual([schema_of_version(SCHEMA, course, told, version) for version in (0, 1, 2)], [SCHEMA, TREE_SCHEMA, TREE_SCHEMA])
        # Also VERSION 0 goes away, when it is not the home.
        course = (ADD, GROWN, ("begin", 1), ("step", ("t", 7)), ("step", ("t", 8)), ("end",), ("away", 0), SET_B, SET_A)
        self.assertEqual(history_of(SCHEMA, course, (True,) * 9, 0), ({"t": {}}, LIVES[0][1][:1]))

    def test_replayed(self):
        here = {"t": {7: (30,), 8: (9,)}}, {"t": {7: (5,), 8: (5,)}}
        self.assertEqual(self.new(replayed, SCHEMA, LIVES[0]), [{"t": {}}, here[0], here[1], here[1], {"t": {7: (5,)}}])
        rows = [{7: (30, 2), 8: (9, 2)}, {7: (30, 4), 8: (9, 4)}, {7: (5, 4), 8: (5, 4)}, {7: (5, 4), 8: (5, 4)}, {7: (5, 4)}]
        self.assertEqual(self.new(replayed, TREE_SCHEMA, (turned_about(LIVES[1][0]), LIVES[1][1])), [{"t": told} for told in rows])
        self.assertEqual(self.new(replayed, SCHEMA, ({"t": {3: (1,), 2: (2,)}}, ())), [{"t": {2: (2,), 3: (1,)}}])

    def test_at_random(self):
        """A life beside others is told as one alone: nothing is refused, all answers are told, and it ends as the copy ends."""
        own, others, gone, answers = 0, 0, 0, 0
        for seed in range(80):
            life, schema, course = course_at(seed, 25)
            tolds, _ = run_disk(schema, course)
            happened = happened_in(tolds)
            meanings = [first_meaning(schema)]
            for line, so in zip(course, happened):
                meanings.append(meant(meanings[-1], line)[1] if so and line[0] != "cut" else meanings[-1])
            self.assertEqual(run_meaning(schema, course, happened)[1], meanings[-1])
            for version in range(len(meanings[-1][0][1]) + 1):
                lived = [meaning for meaning in meanings if version in meaning[1]]
                told = self.new(history_of, schema, course, happened, version)
                here = self.told(schema_of_version, schema, course, happened, version)
                self.assertEqual(told[0], lived[0][2][version])
                bases = self.new(replayed, here, told)
                self.assertEqual(bases[-1], lived[-1][2][version])
                self.assertTrue(all(is_right(here, base) for base in bases))
                self.so(is_lived, here, told)
                for (index, whose, transaction, said), one, other in zip(told[1], bases, bases[1:]):
                    self.assertEqual((one, other), (meanings[index][2][version], meanings[index + 1][2][version]))
                    self.assertEqual((course[index][0], course[index][1] == version), ("do", whose == "own"))
                    if whose == "own":
                        self.assertEqual((transaction, list(said)), (course[index][2], tolds[index][1]))
                        answers += len(said)
                        own += 1
                    else:
                        self.assertEqual((said, one != other), ((), True))
                        others += 1
                # No other line of its life is one of its own that told answers, or changes it.
                rows = [row[0] for row in told[1]]
                start = meanings.index(lived[0]) if version else 0
                for index in range(start, len(course)):
                    if index not in rows and version in meanings[index][1] and version in meanings[index + 1][1]:
                        self.assertEqual(meanings[index][2][version], meanings[index + 1][2][version])
                        self.assertFalse(course[index][:2] == ("do", version) and tolds[index][0] == "answers")
                gone += version not in meanings[-1][1]
            self.assertIsNone(history_of(schema, course, happened, len(meanings[-1][0][1]) + 1))
        self.assertGreater(min(own, others, answers), 60)
        self.assertGreater(gone, 10)


class Lived(News):

    def test_lived(self):
        for version in (0, 1):
            self.so(is_lived, SCHEMAS[version], LIVES[version])
            self.so(is_lived, SCHEMAS[version], (turned_about(LIVES[version][0]), LIVES[version][1]))
            self.so(is_lived, SCHEMAS[version], (LIVES[version][0], ()))
            self.not_so(is_lived, SCHEMAS[1 - version], LIVES[version])
        base, rows = LIVES[1]
        # Without what another one did the same answers are told; without its own they may not be.
        self.so(is_lived, TREE_SCHEMA, (base, rows[:1] + rows[2:]))
        self.not_so(is_lived, SCHEMA, (LIVES[0][0], LIVES[0][1][1:]))
        self.not_so(is_lived, TREE_SCHEMA, ({"t": {7: (30, 2)}}, rows))
        # Those of others may be any TRANSACTIONS that are not REFUSED, and tell nothing.
        for transaction, is_so in [((), True), ((ROWS,), True), ((("add", "t", 9, (1, 1)), takes(9)), True), ((("add", "t", 7, (1, 1)),), False),
                                   ((("need", ("count", "t", ALWAYS), 3, None),), False), ((put("b", ("num", 5)),), False), ((put("x", KEY),), False),
                                   ([], False), (None, False), ((None,), False)]:
            self.assertIs(is_lived(TREE_SCHEMA, (base, rows[:1] + ((4, "others", transaction, ()),) + rows[2:])), is_so, transaction)
            self.assertIs(is_lived(TREE_SCHEMA, (base, ((0, "others", transaction, ()),))), is_so)
            self.not_so(is_lived, TREE_SCHEMA, (base, ((0, "others", transaction, (1,)),)))
            self.not_so(is_lived, TREE_SCHEMA, (base, ((0, "others", transaction, []),)))
        # Refused at its end, or not RIGHT at first.
        leads = ((("n", ((("m", ("may", "n")),), ("<", KEY, ("num", 9)))),), ())
        self.so(is_lived, leads, ({"n": {1: (2,), 2: (None,)}}, ((3, "own", (("take", "n", ALWAYS),), ()),)))
        self.not_so(is_lived, leads, ({"n": {1: (3,), 2: (None,)}}, ()))
        self.not_so(is_lived, leads, ({"n": {9: (9,)}}, ()))
        for whose in ("own", "others"):
            self.not_so(is_lived, leads, ({"n": {1: (2,), 2: (None,)}}, ((3, whose, (("take", "n", ("=", KEY, ("num", 2))),), ()),)))
            self.not_so(is_lived, leads, ({"n": {}}, ((3, whose, (("add", "n", 9, (None,)),), ()),)))

    def test_answers(self):
        base = {"t": {1: (5,), 2: (0,)}}
        ask = (("ask", ("count", "t", ("<", ("col", "a"), ("num", 3)))), ("ask", ("rows", "t", ALWAYS, (("col", "a"),))))
        good = (1, [(1, (5,)), (2, (0,))])
        self.so(is_lived, SCHEMA, (base, ((0, "own", ask, good),)))
        self.so(is_lived, SCHEMA, (base, ((0, "own", (), ()),)))
        for said in [(), good[:1], good[::-1], list(good), good + (1,), (True, good[1]), (2, good[1]), (1, [(1, (5,)), (2, (False,))]), (1, [(True, (5,)), (2, (0,))]),
                     (1, tuple(good[1])), (1, [(1, [5]), (2, (0,))]), (1, [[1, (5,)], (2, (0,))]), (1, good[1][::-1]), (1, []), (1, None), (None, good[1]), None, 1]:
            self.not_so(is_lived, SCHEMA, (base, ((0, "own", ask, said),)))
        for thing in spoiled((1, (2, (0,)))):
            self.not_so(is_lived, SCHEMA, (base, ((0, "own", ask, thing),)))

    def test_indexes(self):
        base, rows = LIVES[1]
        for order, is_so in [((3, 5, 7, 12), True), ((0, 1, 2, 3), True), ((5, 3, 7, 12), False), ((3, 3, 7, 12), False), ((3, 5, 12, 7), False),
                             ((-1, 5, 7, 12), False), ((False, 5, 7, 12), False), ((0, True, 7, 12), False), ((None, 5, 7, 12), False),
                             (("3", 5, 7, 12), False), ((3, 5, 7, 10 ** 39), True)]:
            self.assertIs(is_lived(TREE_SCHEMA, (base, tuple((index,) + row[1:] for index, row in zip(order, rows)))), is_so, order)

    def test_any_value(self):
        for thing in ANYTHING:
            self.not_so(is_lived, SCHEMA, thing)
            self.not_so(is_lived, SCHEMA, (thing, ()))
            self.assertIs(is_lived(SCHEMA, ({"t": {}}, thing)), thing == () and isinstance(thing, tuple))
            self.not_so(is_lived, SCHEMA, ({"t": {}}, (thing,)))
            self.not_so(is_lived, SCHEMA, ({"t": {}}, ((thing, "own", (), ()), (1, thing, (), ()))))
        for version in (0, 1):
            whole = LIVES[version]
            for thing in spoiled(whole):
                if is_lived(SCHEMAS[version], thing):
                    # Another TRANSACTION or DATABASE may be lived as well.
                    self.assertEqual([row[:2] for row in thing[1]], [row[:2] for row in whole[1]])
                    self.assertTrue(is_right(SCHEMAS[version], thing[0]))
            for thing in [list(whole), whole[:1], whole + ((),), (whole[0], list(whole[1])), whole[::-1], ({}, whole[1]), (whole[0], whole[1][0])]:
                self.not_so(is_lived, SCHEMAS[version], thing)
        for row in [(3, "own", ()), (3, "own", (), (), ()), [3, "own", (), ()], (3, "mine", (), ()), (3, None, (), ()), (3, "Own", (), ()), ("own", 3, (), ())]:
            self.not_so(is_lived, SCHEMA, ({"t": {}}, (row,)))


if __name__ == "__main__":
    unittest.main()
