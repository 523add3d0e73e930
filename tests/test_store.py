"""[39] and [40]: the STORE, what it tells, and another home; [8]."""

import unittest

from everyversion.copies import are_copies
from everyversion.databases import rows_many
from everyversion.fitting import fits
from everyversion.store import copies_of, is_store, kept_many, store_of, view, with_home
from everyversion.trees import edge_between, is_far_wide, outwards, path, schema_at
from lives import Life
from samples import ANYTHING, News, spoiled, turned_about
from versions import COPIES, HIDDENS, LIVE, SCHEMA, TREE, store_at, turned

class Stores(News):

    def test_store_of(self):
        for home in LIVE:
            self.assertEqual(self.new(store_of, TREE, LIVE, home, turned_about(COPIES)), store_at(home))
        one = (0, 2, 4)
        copies = {version: COPIES[version] for version in one}
        self.assertEqual(self.new(store_of, TREE, one, 0, copies), (TREE, one, 0, COPIES[0], {2: {}}))
        self.assertEqual(self.new(store_of, TREE, one, 4, copies), (TREE, one, 4, COPIES[4], {4: {7: 30}}))
        self.assertEqual(self.new(store_of, TREE, (3,), 3, {3: COPIES[3]}), (TREE, (3,), 3, COPIES[3], {}))

    def test_views(self):
        for home in LIVE:
            store = store_at(home)
            self.so(is_store, store)
            self.so(is_store, turned(store))
            for version in LIVE:
                self.assertEqual(self.new(view, turned(store), version), COPIES[version])
            self.assertEqual(self.new(copies_of, turned(store)), COPIES)
            self.assertEqual(self.told(kept_many, store), (rows_many(COPIES[home]), 13))

    def test_a_view_looks_at_the_path_alone(self):
        for home in LIVE:
            for version in LIVE:
                way = path(TREE, LIVE, home, version)
                edges = [edge_between(TREE, *pair)[0] for pair in zip(way, way[1:])]
                hiddens = {edge: told for edge, told in HIDDENS[home].items() if edge in edges}
                self.assertEqual(view((TREE, LIVE, home, COPIES[home], hiddens), version), COPIES[version])

    def test_is_store(self):
        for home in LIVE:
            tree, live, home, database, hiddens = store_at(home)
            for other in [None, -1, 5, (home,), str(home), [home]]:
                self.not_so(is_store, (tree, live, other, database, hiddens))
            for other in [(), (0, 3), LIVE + (5,), list(LIVE), None, tuple(one for one in LIVE if one != home)]:
                self.not_so(is_store, (tree, other, home, database, hiddens))
            for other in [None, {}, [], {"t": None}, {**database, "u": {}}, {**database, "t": {7: (99, 99, 99)}}]:
                self.not_so(is_store, (tree, live, home, other, hiddens))
            for other in [None, (), [], list(hiddens.items()), {**hiddens, 9: {}}, {**hiddens, 0: {}}, {str(edge): hiddens[edge] for edge in hiddens}]:
                self.not_so(is_store, (tree, live, home, database, other))
            for edge in hiddens:
                self.not_so(is_store, (tree, live, home, database, {one: hiddens[one] for one in hiddens if one != edge}))
                unfit = {1: [{7: 5}, {7: 2}, {7: -1}], 2: [{7: 5}, {7: 30}], 3: [{99: (6, None)}, {1: (7,)}, {7: 7}], 4: [{7: 9}, {7: None}]}
                for told in unfit[edge] + [None, [], {99: 1}, {7: (9, None)}, {True: 3}, {7: True}, ()]:
                    self.not_so(is_store, (tree, live, home, database, {**hiddens, edge: told}))
            for edge in {1, 2, 3, 4} - set(hiddens):
                self.not_so(is_store, (tree, live, home, database, {**hiddens, edge: {}}))
            self.not_so(is_store, list(store_at(home)))
            self.not_so(is_store, store_at(home)[:4])
            self.not_so(is_store, store_at(home) + ({},))
            self.not_so(is_store, ((SCHEMA, TREE[1] + TREE[1][:1] + ((1, TREE[1][0][1]),)), live, home, database, hiddens))
        self.not_so(is_store, (TREE, LIVE, False, COPIES[0], HIDDENS[0]))
        self.not_so(is_store, (TREE, LIVE, True, COPIES[1], HIDDENS[1]))
        self.not_so(is_store, (TREE, LIVE, 0, COPIES[0], {True if edge == 1 else edge: told for edge, told in HIDDENS[0].items()}))
        # A home that is not RIGHT.
        self.not_so(is_store, (TREE, (3,), 3, {"n": {1: (7, 9)}, "t": {7: (30, 4)}}, {}))
        self.so(is_store, (TREE, (3,), 3, {"n": {1: (7, 1)}, "t": {7: (30, 4)}}, {}))
        for thing in ANYTHING:
            self.not_so(is_store, thing)
        # What is hidden must fit what stands further in now.
        for database, is_right in [({"t": {7: (30,), 8: (9,)}}, True), ({"t": {7: (0,), 8: (0,)}}, True), ({"t": {8: (9,)}}, False),
                                   ({"t": {7: (30,)}}, False), ({"t": {7: (30,), 8: (9,), 9: (1,)}}, True)]:
            self.assertIs(is_store((TREE, LIVE, 0, database, HIDDENS[0])), is_right)

    def test_spoiled(self):
        small = ((SCHEMA, TREE[1][:1]), (0, 1), 0, {"t": {7: (30,)}}, {1: {7: 4}})
        self.so(is_store, small)
        for thing in spoiled(small):
            if is_store(thing):
                # The change may have another value, sort or name, or none be hidden.
                self.assertEqual((thing[0][0], thing[1:4]), (small[0][0], small[1:4]))
                self.assertEqual(copies_of(thing)[0], small[3])

    def test_with_home(self):
        for home in LIVE:
            for version in LIVE:
                self.assertEqual(self.new(with_home, turned(store_at(home)), version), store_at(version))

    def test_at_random(self):
        hides, homes = 0, 0
        for seed in range(200):
            life = Life(seed)
            tree = life.tree(5)
            live = life.live(tree)
            copies = life.copies(tree, live)
            home = life.one(live)
            store = self.new(store_of, tree, live, home, turned_about(copies))
            self.so(is_store, store)
            self.assertEqual(store[:4], (tree, live, home, copies[home]))
            pairs = [(near, far) for near, far in outwards(tree, live, home) if is_far_wide(tree, near, far)]
            self.assertEqual(sorted(store[4]), sorted(edge_between(tree, near, far)[0] for near, far in pairs))
            for near, far in pairs:
                edge, _ = edge_between(tree, near, far)
                parent, change = tree[1][edge - 1]
                self.assertTrue(fits(schema_at(tree, parent), change, copies[near], store[4][edge]))
            hides += any(told != {} for told in store[4].values())
            self.assertEqual(self.new(copies_of, turned(store)), copies)
            self.assertEqual(self.told(kept_many, store), (rows_many(copies[home]), sum(rows_many(one) for one in copies.values())))
            for version in live:
                self.assertEqual(self.new(view, turned(store), version), copies[version])
                there = self.new(with_home, turned(store), version)
                self.assertEqual(there, store_of(tree, live, version, copies))
                self.so(is_store, there)
                self.assertEqual(with_home(there, home), store)
                # Edges that are not between both homes have what they had.
                way = path(tree, live, home, version)
                between = [edge_between(tree, *pair)[0] for pair in zip(way, way[1:])]
                self.assertEqual({edge: told for edge, told in there[4].items() if edge not in between},
                                 {edge: told for edge, told in store[4].items() if edge not in between})
                homes += version != home
        self.assertGreater(hides, 40)
        self.assertGreater(homes, 100)

    def test_other_stores_tell_copies(self):
        """What is hidden, exchanged for other things that fit, tells other COPIES."""
        others = 0
        for seed in range(60):
            life = Life(seed)
            store = life.store(3)
            for thing in spoiled(store[4]):
                if is_store(store[:4] + (thing,)):
                    told = copies_of(store[:4] + (thing,))
                    self.assertTrue(are_copies(store[0], store[1], told))
                    self.assertEqual(store_of(store[0], store[1], store[2], told), store[:4] + (thing,))
                    others += thing != store[4]
        self.assertGreater(others, 5)


if __name__ == "__main__":
    unittest.main()
