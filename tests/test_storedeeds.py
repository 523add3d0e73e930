"""[41], [42] and [43]: what is done to a STORE is what is done to all COPIES; [8]."""

import unittest

from everyversion.changes import CHANGES
from everyversion.copies import done, grown, moved_versions, taken_away
from everyversion.errors import IsHome, NotEnd, NotTaken, Refused
from everyversion.refusals import refusal
from everyversion.store import copies_of, is_store, store_of, view
from everyversion.storedeeds import do, edges_touched, grow, is_beside, take_away
from everyversion.trees import edge_between, is_far_wide, path, schema_at
from lives import Life
from samples import ALWAYS, News
from versions import COPIES, HIDDENS, LIVE, SCHEMA, TREE, put, store_at, turned

INT, KEY = ("int",), ("key",)


class Deeds(News):

    def test_do(self):
        take = (("take", "t", ("=", KEY, ("num", 7))),)
        for version, transaction, hiddens in [
                (0, take, {1: {}, 2: {}, 3: {2: (8, 2)}}), (2, take, {1: {}, 2: {}, 3: {2: (8, 2)}}), (4, take, {1: {}, 2: {}, 3: {2: (8, 2)}}),
                (1, (put("b", ("num", 3)),), {1: {7: 3, 8: 3}, 2: {}, 3: HIDDENS[0][3]}), (1, (put("b", ("num", 2)),), {1: {}, 2: {}, 3: HIDDENS[0][3]}),
                (3, (("take", "n", ("=", KEY, ("num", 2))), ("add", "n", 2, (8, None))), {1: {7: 4}, 2: {}, 3: {1: (7, 2), 2: (8, None), 3: (7, None)}}),
                (2, (put("x", ("num", 0)), ("ask", ("count", "t", ALWAYS))), HIDDENS[0])]:
            answers, copies = done(TREE, LIVE, COPIES, version, transaction)
            told, store = self.new(do, turned(store_at(0)), version, transaction)
            self.assertEqual((told, store), (answers, (TREE, LIVE, 0, copies[0], hiddens)))
            self.assertEqual(copies_of(store), copies)
            for home in LIVE:
                self.assertEqual(self.new(do, turned(store_at(home)), version, transaction), (answers, store_of(TREE, LIVE, home, copies)))

    def test_do_refused(self):
        for home in LIVE:
            store = store_at(home)
            before = repr(store)
            for version, transaction, index, reason in [
                    (3, (("take", "t", ALWAYS),), 1, ("broken", ("ref", "n", 1, "of"))), (1, ((put("b", ("num", 5))),), 0, ("fit",)),
                    (0, ((("ask", ("count", "t", ALWAYS))), ("add", "t", 7, (1,))), 1, ("there",))]:
                with self.assertRaises(Refused) as caught:
                    do(store, version, transaction)
                self.assertEqual((caught.exception.index, caught.exception.reason), (index, reason))
            self.assertEqual(repr(store), before)

    def test_grow(self):
        for home in LIVE:
            for version, change, hidden in [(0, ("add column", "t", "z", INT, 6), {}), (3, ("drop table", "n"), None),
                                            (1, ("call table", "t", "u"), {}), (4, ("add table", "m", ((), ALWAYS)), {}),
                                            (2, ("drop column", "t", "x", 9), None)]:
                tree, live, copies = grown(TREE, LIVE, COPIES, version, change)
                store = self.new(grow, turned(store_at(home)), version, change)
                hiddens = HIDDENS[home] if hidden is None else {**HIDDENS[home], 5: hidden}
                self.assertEqual(store, (tree, live, home, COPIES[home], hiddens))
                self.assertEqual(copies_of(store), copies)
            for version, change in [(0, ("drop table", "z")), (3, ("drop table", "t")), (1, ("add column", "t", "b", INT, 0))]:
                with self.assertRaises(NotTaken) as caught:
                    grow(store_at(home), version, change)
                self.assertEqual((caught.exception.word, caught.exception.things), refusal(schema_at(TREE, version), change))

    def test_take_away(self):
        for home in LIVE:
            for version in LIVE:
                store = store_at(home)
                if version in (3, 4) and version != home:
                    live, copies = taken_away(TREE, LIVE, COPIES, version)
                    hiddens = {edge: told for edge, told in HIDDENS[home].items() if edge != version}
                    self.assertEqual(self.new(take_away, turned(store), version), (TREE, live, home, COPIES[home], hiddens))
                    self.assertEqual(copies_of(take_away(store, version)), copies)
                else:
                    with self.assertRaises(IsHome if version in (3, 4) else NotEnd) as caught:
                        take_away(store, version)
                    self.assertEqual(caught.exception.version, version)
        # Seen from the child the edge has another name than the version that goes.
        two = store_of(TREE, (1, 3), 3, {1: COPIES[1], 3: COPIES[3]})
        self.assertEqual(self.new(take_away, two, 1), (TREE, (3,), 3, COPIES[3], {}))
        two = store_of(TREE, (2, 4), 4, {2: COPIES[2], 4: COPIES[4]})
        self.assertEqual((two[4], self.new(take_away, two, 2)), ({4: {7: 30}}, (TREE, (4,), 4, COPIES[4], {})))
        # NotEnd comes ahead of IsHome, also of the only one.
        for store in [(TREE, (3,), 3, COPIES[3], {}), store_of(TREE, (0, 1, 3), 1, {one: COPIES[one] for one in (0, 1, 3)})]:
            with self.assertRaises(NotEnd) as caught:
                take_away(store, store[2])
            self.assertEqual(caught.exception.version, store[2])

    def test_beside(self):
        for home in LIVE:
            self.so(is_beside, turned(store_at(home)), COPIES)
            for other in [{**COPIES, 4: {"t": {7: ()}}}, {one: COPIES[one] for one in LIVE if one != 4}, {**COPIES, 3: {**COPIES[3], "n": {}}},
                          {**COPIES, 1: {"t": {7: (30, 2), 8: (9, 2)}}}]:
                self.not_so(is_beside, store_at(home), other)

    def test_edges_touched(self):
        store = store_at(4)
        self.assertEqual(self.told(edges_touched, turned(store), store), ())
        for hiddens, found in [({**HIDDENS[4], 1: {}}, (1,)), ({**HIDDENS[4], 1: {8: 4}, 4: {7: 31}}, (1, 4)),
                               ({1: {}, 3: {}, 4: {}}, (1, 3, 4)), ({**HIDDENS[4], 3: {1: (7, 3)}}, (3,))]:
            self.assertEqual(self.told(edges_touched, store, store[:4] + (hiddens,)), found)
            self.assertEqual(self.told(edges_touched, turned(store[:4] + (hiddens,)), store), found)
        self.assertEqual(edges_touched(store, (TREE, LIVE, 4, {"t": {}}, HIDDENS[4])), ())


class AtRandom(News):

    def test_do(self):
        """All copies and the store go the same way, whatever version writes, and wherever the home is."""
        touched, moved, refused, words = 0, 0, 0, set()
        for seed in range(200):
            life = Life(seed)
            tree = life.tree(6)
            live = life.live(tree)
            copies = life.copies(tree, live)
            home = life.one(live)
            store = store_of(tree, live, home, copies)
            for _ in range(4):
                version = life.one(live)
                schema = schema_at(tree, version)
                transaction = life.transaction(schema) if life.chance(0.2) else life.taken_transaction(schema, copies[version])
                try:
                    answers, after = done(tree, live, copies, version, transaction)
                except Refused as error:
                    with self.assertRaises(Refused) as caught:
                        do(store, version, transaction)
                    self.assertEqual((caught.exception.index, caught.exception.reason), (error.index, error.reason))
                    refused += 1
                    continue
                told, later = self.new(do, turned(store), version, transaction)
                self.assertEqual((told, later), (answers, store_of(tree, live, home, after)))
                self.so(is_beside, later, after)
                # What is touched lies on the path, or beyond a version whose copy is another one.
                changed = moved_versions(copies, after)
                way = path(tree, live, version, home)
                for edge in edges_touched(store, later):
                    ends = (tree[1][edge - 1][0], edge)
                    self.assertTrue(set(ends) <= set(way) or set(ends) & set(changed))
                    touched += 1
                moved += len(changed) > 2
                words |= {tree[1][at - 1][1][0] for at in range(1, len(tree[1]) + 1) if at in changed}
                copies, store = after, later
        self.assertGreater(min(touched, moved, refused), 20)
        self.assertEqual(words, set(CHANGES))

    def test_versions_come_and_go(self):
        came, went, homes = 0, 0, 0
        for seed in range(250):
            life = Life(seed)
            store = life.store(4)
            tree, live, home = store[:3]
            copies = copies_of(store)
            version = life.one(live)
            change = life.change(schema_at(tree, version))
            try:
                told = grown(tree, live, copies, version, change)
            except NotTaken as error:
                with self.assertRaises(NotTaken) as caught:
                    grow(store, version, change)
                self.assertEqual((caught.exception.word, caught.exception.things), (error.word, error.things))
            else:
                store = self.new(grow, turned(store), version, change)
                tree, live, copies = told
                self.assertEqual(store, store_of(tree, live, home, copies))
                self.so(is_store, store)
                came += 1
            version = life.one(live)
            try:
                told = taken_away(tree, live, copies, version)
            except NotEnd:
                with self.assertRaises(NotEnd):
                    take_away(store, version)
                continue
            if version == home:
                with self.assertRaises(IsHome):
                    take_away(store, version)
                homes += 1
            else:
                left = self.new(take_away, turned(store), version)
                self.assertEqual(left, store_of(tree, told[0], home, told[1]))
                went += 1
        self.assertGreater(min(came, went, homes), 20)

    def test_a_wide_far_end_beyond_what_does_not_move(self):
        """A copy that stays as it was has nothing behind it touched."""
        tree = (SCHEMA, ((0, ("drop column", "t", "a", 0)), (1, ("add column", "t", "z", INT, 1))))
        copies = {0: {"t": {1: (5,)}}, 1: {"t": {1: ()}}, 2: {"t": {1: (8,)}}}
        store = store_of(tree, (0, 1, 2), 0, copies)
        answers, later = do(store, 0, (put("a", ("num", 6)),))
        self.assertEqual((answers, later, view(later, 2)), ([], (tree, (0, 1, 2), 0, {"t": {1: (6,)}}, {2: {1: 8}}), {"t": {1: (8,)}}))
        self.assertEqual([is_far_wide(tree, 0, 1), edge_between(tree, 1, 2)], [False, (2, "parent")])


if __name__ == "__main__":
    unittest.main()
