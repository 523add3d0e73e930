"""[36], [37] and [38]: COPIES, transactions on them, versions that come and go; [7]."""

import unittest

from everyversion.changes import CHANGES, is_change
from everyversion.copies import are_copies, carried_on, done, first_copies, grown, moved_versions, spread, taken_away
from everyversion.databases import is_right
from everyversion.errors import NotEnd, NotTaken, Refused
from everyversion.fitting import carried, first_carried
from everyversion.forms import is_database
from everyversion.refusals import refusal
from everyversion.running import run
from everyversion.sides import agree
from everyversion.trees import ends_of, is_live, is_tree, schema_at
from lives import Life
from samples import ALWAYS, ANYTHING, News, spoiled, turned_about
from versions import COPIES, LIVE, SCHEMA, TREE, put

INT, KEY = ("int",), ("key",)

class Copies(News):

    def test_are_copies(self):
        self.so(is_tree, TREE)
        self.so(are_copies, TREE, LIVE, COPIES)
        self.so(are_copies, TREE, LIVE, turned_about(COPIES))
        for live in [(0,), (1, 3), (0, 2, 4), (4,)]:
            self.so(are_copies, TREE, live, {version: COPIES[version] for version in live})
            self.not_so(are_copies, TREE, live, COPIES)
        for version in LIVE:
            others = {one: COPIES[one] for one in LIVE if one != version}
            self.not_so(are_copies, TREE, LIVE, others)
            for thing in [None, {}, [], {"t": {}}, {"t": None}, COPIES[version]["t"], {**COPIES[version], "u": {}}]:
                self.not_so(are_copies, TREE, LIVE, {**others, version: thing})
        # Neighbours that do not AGREE, and one that is not RIGHT.
        for version, other in [(0, {"t": {7: (31,), 8: (9,)}}), (1, {"t": {7: (30, 4), 8: (8, 2)}}), (2, {"t": {7: (30,)}}),
                               (3, {"n": {}, "t": {7: (30, 3), 8: (9, 2)}}), (4, {"t": {7: ()}}), (4, {"t": {7: (), 8: (), 9: ()}}),
                               (3, {"n": {1: (9, 1)}, "t": {7: (30, 4), 8: (9, 2)}}), (1, {"t": {7: (30, 5), 8: (9, 2)}})]:
            self.not_so(are_copies, TREE, LIVE, {**COPIES, version: other})
        self.so(are_copies, TREE, LIVE, {**COPIES, 3: {"n": {}, "t": {7: (30, 4), 8: (9, 2)}}})
        self.not_so(are_copies, TREE, (0, 1), {False: COPIES[0], True: COPIES[1]})
        self.not_so(are_copies, TREE, (0, 1), {0: COPIES[0], True: COPIES[1]})
        self.not_so(are_copies, TREE, (0, 1), {0: COPIES[0], "1": COPIES[1]})
        self.not_so(are_copies, TREE, (0, 1), ((0, COPIES[0]), (1, COPIES[1])))
        for thing in ANYTHING + spoiled(COPIES):
            # Other rows of the table that none but 3 has may be COPIES, too.
            if not isinstance(thing, dict) or {**thing, 3: None} != {**COPIES, 3: None}:
                self.not_so(are_copies, TREE, LIVE, thing)

    def test_first_copies(self):
        self.assertEqual(self.new(first_copies, TREE, LIVE), {0: {"t": {}}, 1: {"t": {}}, 2: {"t": {}}, 3: {"n": {}, "t": {}}, 4: {"t": {}}})
        self.assertEqual(self.new(first_copies, TREE, (1, 3)), {1: {"t": {}}, 3: {"n": {}, "t": {}}})

    def test_carried_on(self):
        for near, far, new, told in [
                (0, 1, {"t": {7: (5,), 9: (6,)}}, {"t": {7: (5, 4), 9: (6, 2)}}), (1, 0, {"t": {7: (5, 0)}}, {"t": {7: (5,)}}),
                (0, 2, {"t": {1: (5,)}}, {"t": {1: (5,)}}), (1, 3, {"t": {7: (0, 0)}}, {"n": {3: (7, None), 1: (7, None)}, "t": {7: (0, 0)}}),
                (4, 2, {"t": {7: (), 9: ()}}, {"t": {7: (30,), 9: (9,)}}), (2, 4, {"t": {7: (8,)}}, {"t": {7: ()}}),
                (3, 1, {"n": {}, "t": {1: (1, 1)}}, {"t": {1: (1, 1)}})]:
            self.assertEqual(self.new(carried_on, TREE, near, far, turned_about(new), turned_about(COPIES[far])), told)

    def test_spread(self):
        told = self.new(spread, TREE, LIVE, turned_about(COPIES), 4, {"t": {8: (), 7: (), 6: ()}})
        self.assertEqual(told, {
            0: {"t": {6: (9,), 7: (30,), 8: (9,)}}, 1: {"t": {6: (9, 2), 7: (30, 4), 8: (9, 2)}}, 2: {"t": {6: (9,), 7: (30,), 8: (9,)}},
            3: {"n": COPIES[3]["n"], "t": {6: (9, 2), 7: (30, 4), 8: (9, 2)}}, 4: {"t": {6: (), 7: (), 8: ()}}})
        told = self.new(spread, TREE, LIVE, COPIES, 0, {"t": {8: (0,)}})
        self.assertEqual(told, {0: {"t": {8: (0,)}}, 1: {"t": {8: (0, 2)}}, 2: {"t": {8: (0,)}},
                                3: {"n": {2: (8, 2)}, "t": {8: (0, 2)}}, 4: {"t": {8: ()}}})
        for version in LIVE:
            self.assertEqual(self.new(spread, TREE, LIVE, turned_about(COPIES), version, turned_about(COPIES[version])), COPIES)

    def test_done(self):
        answers, copies = self.new(done, TREE, LIVE, turned_about(COPIES), 2, (
            ("ask", ("total", "t", ALWAYS, ("col", "x"))), put("x", ("+", ("col", "x"), ("num", 1))), ("ask", ("total", "t", ALWAYS, ("col", "x")))))
        self.assertEqual(answers, [39, 41])
        self.assertEqual(copies, {0: {"t": {7: (31,), 8: (10,)}}, 1: {"t": {7: (31, 4), 8: (10, 2)}}, 2: {"t": {7: (31,), 8: (10,)}},
                                  3: {"n": COPIES[3]["n"], "t": {7: (31, 4), 8: (10, 2)}}, 4: COPIES[4]})
        self.assertEqual(self.new(done, TREE, LIVE, COPIES, 3, (("take", "n", ALWAYS),)), ([], {**COPIES, 3: {**COPIES[3], "n": {}}}))
        self.assertEqual(self.new(done, TREE, LIVE, COPIES, 1, ()), ([], COPIES))
        # 0 knows nothing of n: what leads to a row that is gone goes as well; 3 itself is refused.
        self.assertEqual(done(TREE, LIVE, COPIES, 0, (("take", "t", ("=", KEY, ("num", 7))),))[1][3], {"n": {2: (8, 2)}, "t": {8: (9, 2)}})
        for version, transaction, index, reason in [
                (3, (("take", "t", ("=", KEY, ("num", 7))),), 1, ("broken", ("ref", "n", 1, "of"))),
                (1, (put("a", ("num", 5)), put("b", ("num", 5))), 1, ("fit",)), (0, (("add", "t", 7, (1,)),), 0, ("there",)),
                (4, (("need", ("count", "t", ALWAYS), 3, None),), 0, ("need",))]:
            before = repr(COPIES)
            with self.assertRaises(Refused) as caught:
                done(TREE, LIVE, COPIES, version, transaction)
            self.assertEqual((caught.exception.index, caught.exception.reason), (index, reason))
            self.assertEqual(repr(COPIES), before)

    def test_moved_versions(self):
        self.assertEqual(self.told(moved_versions, COPIES, turned_about(COPIES)), ())
        self.assertEqual(self.told(moved_versions, turned_about(COPIES), {**COPIES, 3: {"n": {}, "t": {}}, 0: {"t": {}}}), (0, 3))
        self.assertEqual(self.told(moved_versions, COPIES, first_copies(TREE, LIVE)), LIVE)

    def test_grown(self):
        for version, change, copy in [
                (1, ("drop column", "t", "a", 0), {"t": {7: (4,), 8: (2,)}}), (4, ("add column", "t", "z", INT, 6), {"t": {7: (6,), 8: (6,)}}),
                (3, ("drop table", "n"), {"t": {7: (30, 4), 8: (9, 2)}}), (0, ("move keys", "t", 1), {"t": {8: (30,), 9: (9,)}}),
                (3, ("add table", "m", ((("r", ("ref", "n")),), ALWAYS)), {"m": {}, **COPIES[3]})]:
            self.assertTrue(is_change(change))
            tree, live, copies = self.new(grown, TREE, LIVE, turned_about(COPIES), version, change)
            self.assertEqual(tree, (SCHEMA, TREE[1] + ((version, change),)))
            self.assertEqual((live, copies), (LIVE + (5,), {**COPIES, 5: copy}))
            self.so(are_copies, tree, live, copies)
        # The number is that of all edges, though some versions are not LIVE any more.
        tree, live, copies = self.new(grown, TREE, (0, 1), {0: COPIES[0], 1: COPIES[1]}, 0, ("call table", "t", "u"))
        self.assertEqual((len(tree[1]), live, copies[5]), (5, (0, 1, 5), {"u": COPIES[0]["t"]}))
        for version, change in [(0, ("drop column", "t", "b", 0)), (1, ("add column", "t", "b", INT, 0)), (3, ("drop table", "t")),
                                (2, ("call table", "u", "t"))]:
            with self.assertRaises(NotTaken) as caught:
                grown(TREE, LIVE, COPIES, version, change)
            self.assertEqual((caught.exception.word, caught.exception.things), refusal(schema_at(TREE, version), change))

    def test_taken_away(self):
        for version in (3, 4):
            live = tuple(one for one in LIVE if one != version)
            told = self.new(taken_away, TREE, LIVE, turned_about(COPIES), version)
            self.assertEqual(told, (live, {one: COPIES[one] for one in live}))
        for live, version in [(LIVE, 0), (LIVE, 1), (LIVE, 2), ((3,), 3), ((0,), 0), ((0, 1, 3), 1)]:
            with self.assertRaises(NotEnd) as caught:
                taken_away(TREE, live, {one: COPIES[one] for one in live}, version)
            self.assertEqual(caught.exception.version, version)
        self.assertEqual(taken_away(TREE, (0, 1), COPIES, 0), ((1,), {1: COPIES[1]}))


class AtRandom(News):

    def test_lives(self):
        """All are RIGHT and AGREE, and each version reads and writes as if it were alone."""
        followed, words = 0, set()
        for seed in range(160):
            life = Life(seed)
            tree = life.tree(5)
            live = life.live(tree)
            copies = life.copies(tree, live)
            self.so(are_copies, tree, live, copies)
            for _ in range(3):
                version = life.one(live)
                schema = schema_at(tree, version)
                transaction = life.taken_transaction(schema, copies[version])
                answers, later = self.new(done, tree, live, copies, version, transaction)
                self.assertEqual((answers, later[version]), run(schema, copies[version], transaction))
                self.so(are_copies, tree, live, later)
                moved = moved_versions(copies, later)
                self.assertEqual(moved, tuple(one for one in live if copies[one] != later[one]))
                followed += len(moved) > 1
                if len(moved) > 1:
                    words |= {change[0] for at, (near, change) in enumerate(tree[1]) if near in moved and at + 1 in moved}
                copies = later
        self.assertGreater(followed, 60)
        self.assertEqual(words, set(CHANGES))

    def test_versions_come_and_go(self):
        came, went = 0, 0
        for seed in range(200):
            life = Life(seed)
            tree = life.tree(3)
            live = life.live(tree)
            copies = life.copies(tree, live)
            version = life.one(live)
            change = life.change(schema_at(tree, version))
            reason = refusal(schema_at(tree, version), change)
            if reason is None:
                tree, live, copies = self.new(grown, tree, live, copies, version, change)
                self.assertTrue(is_tree(tree) and is_live(tree, live))
                self.so(are_copies, tree, live, copies)
                self.assertEqual(copies[live[-1]], first_carried(schema_at(tree, version), change, "parent", copies[version]))
                came += 1
            else:
                with self.assertRaises(NotTaken) as caught:
                    grown(tree, live, copies, version, change)
                self.assertEqual((caught.exception.word, caught.exception.things), reason)
            version = life.one(live)
            if version in ends_of(tree, live) and len(live) > 1:
                live, copies = self.new(taken_away, tree, live, copies, version)
                self.assertTrue(is_live(tree, live) and version not in live)
                self.so(are_copies, tree, live, copies)
                went += 1
            else:
                with self.assertRaises(NotEnd):
                    taken_away(tree, live, copies, version)
        self.assertGreater(came, 50)
        self.assertGreater(went, 50)

    def test_carried_on(self):
        for seed in range(80):
            life = Life(seed)
            tree = life.tree(3)
            for at, (parent, change) in enumerate(tree[1]):
                child = at + 1
                schema = schema_at(tree, parent)
                one, other = life.database(schema), life.database(schema_at(tree, child))
                there = carried_on(tree, parent, child, one, other)
                self.assertEqual(there, carried(schema, change, "parent", one, other))
                self.assertTrue(is_database(schema_at(tree, child), there) and is_right(schema_at(tree, child), there))
                self.assertTrue(agree(schema, change, one, there))
                self.assertEqual(carried_on(tree, child, parent, other, one), carried(schema, change, "child", other, one))


if __name__ == "__main__":
    unittest.main()
