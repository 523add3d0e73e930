"""[35]: TREES, LIVE versions, and what lies between these."""

import unittest

from everyversion.changes import child_by
from everyversion.refusals import refusal
from everyversion.sides import wide_side
from everyversion.trees import edge_between, ends_of, is_far_wide, is_live, is_tree, neighbours, outwards, path, schema_at, schemas_of
from lives import Life
from samples import ALWAYS, ANYTHING, News, spoiled

INT = ("int",)
SCHEMA = ((("t", ((("a", INT),), ALWAYS)),), ())
# 0 has the children 1, 2 and 4; 1 has 3 and 6; 4 has 5.
EDGES = (
    (0, ("add column", "t", "b", ("below", 5), 2)),
    (0, ("call column", "t", "a", "x")),
    (1, ("drop column", "t", "b", 2)),
    (0, ("call table", "t", "u")),
    (4, ("drop column", "u", "a", 0)),
    (1, ("call table", "t", "w")),
)
TREE = (SCHEMA, EDGES)
ALL = (0, 1, 2, 3, 4, 5, 6)


def table(name, *columns):
    return (((name, (columns, ALWAYS)),), ())


class Trees(News):

    def test_trees(self):
        for many in range(7):
            self.so(is_tree, (SCHEMA, EDGES[:many]))
        self.so(is_tree, (((), ()), ()))
        self.so(is_tree, (((), ()), ((0, ("add table", "t", ((), ALWAYS))), (1, ("drop table", "t")), (0, ("add table", "t", ((), ALWAYS))))))
        # More versions than the bounds have.
        self.so(is_tree, (SCHEMA, tuple((at, ("move keys", "t", 1)) for at in range(40))))

    def test_no_trees(self):
        for at, (version, change) in enumerate(EDGES):
            for other in [at + 1, -1, None, "0", (0,), version > 0, 10 ** 39]:
                self.not_so(is_tree, (SCHEMA, EDGES[:at] + ((other, change),) + EDGES[at + 1:]))
            for other in [None, (), ("drop table", "z"), ("call column", "z", "a", "b"), ("drop table",), list(change), change[:-1]]:
                self.not_so(is_tree, (SCHEMA, EDGES[:at] + ((version, other),) + EDGES[at + 1:]))
            for edge in [(version,), (version, change, 1), [version, change], change, None]:
                self.not_so(is_tree, (SCHEMA, EDGES[:at] + (edge,) + EDGES[at + 1:]))
        # Version 3 takes what 1 would not.
        self.not_so(is_tree, (SCHEMA, EDGES + ((1, ("add column", "t", "b", INT, 0)),)))
        self.so(is_tree, (SCHEMA, EDGES + ((3, ("add column", "t", "b", INT, 0)),)))
        for thing in ANYTHING + [SCHEMA, EDGES, (SCHEMA,), (SCHEMA, EDGES, ()), [SCHEMA, EDGES], (SCHEMA, list(EDGES)), (SCHEMA, EDGES[0]),
                                 (EDGES, SCHEMA), (SCHEMA, {}), (SCHEMA, None), (None, EDGES), ((SCHEMA[0], None), EDGES)]:
            self.not_so(is_tree, thing)
        for thing in spoiled((SCHEMA, EDGES[:2])):
            if thing != (SCHEMA, EDGES[:1]):
                self.not_so(is_tree, thing)

    def test_schemas(self):
        a, b, x = ("a", INT), ("b", ("below", 5)), ("x", INT)
        schemas = [SCHEMA, table("t", a, b), table("t", x), table("t", a), table("u", a), table("u"), table("w", a, b)]
        self.assertEqual(self.new(schemas_of, TREE), schemas)
        for version in ALL:
            self.assertEqual(self.told(schema_at, TREE, version), schemas[version])
        self.assertEqual(self.new(schemas_of, (SCHEMA, ())), [SCHEMA])

    def test_live(self):
        for live in [(0,), (6,), (0, 1), (0, 1, 2, 3, 4, 5, 6), (1, 3, 6), (4, 5), (0, 4, 5), (0, 1, 3, 4, 5), (1, 6), (0, 2)]:
            self.so(is_live, TREE, live)
        for thing in [(), (7,), (-1,), (1, 2), (0, 3), (0, 5), (0, 1, 5), (3, 6), (4, 5, 6), (1, 0), (0, 0), (0, 1, 1), [0], [0, 1], {0, 1},
                      {0: 1}, 0, None, (False,), (True,), (0, True), (False, 1), ("0",), ((0,),), (0, None), (0, 1, 10 ** 39), "0", (0, 7)]:
            self.not_so(is_live, TREE, thing)
        for thing in ANYTHING:
            self.not_so(is_live, TREE, thing)
        self.so(is_live, (SCHEMA, ()), (0,))
        self.not_so(is_live, (SCHEMA, ()), (1,))

    def test_neighbours(self):
        for live, version, found in [
                (ALL, 0, (1, 2, 4)), (ALL, 1, (0, 3, 6)), (ALL, 2, (0,)), (ALL, 3, (1,)), (ALL, 4, (0, 5)), (ALL, 5, (4,)), (ALL, 6, (1,)),
                ((0,), 0, ()), ((0, 1), 1, (0,)), ((0, 4, 5), 0, (4,)), ((1, 3, 6), 1, (3, 6)), ((1, 3, 6), 6, (1,)), ((4, 5), 4, (5,))]:
            self.assertEqual(self.told(neighbours, TREE, live, version), found)

    def test_edges(self):
        for parent, child in [(0, 1), (0, 2), (1, 3), (0, 4), (4, 5), (1, 6)]:
            self.assertEqual(self.told(edge_between, TREE, parent, child), (child, "parent"))
            self.assertEqual(self.told(edge_between, TREE, child, parent), (child, "child"))
        wide = {1: "child", 2: "child", 3: "parent", 4: "child", 5: "parent", 6: "child"}
        for child, side in wide.items():
            parent = EDGES[child - 1][0]
            self.assertIs(self.told(is_far_wide, TREE, parent, child), side == "child")
            self.assertIs(self.told(is_far_wide, TREE, child, parent), side == "parent")

    def test_paths(self):
        for one, other, found in [(0, 0, (0,)), (5, 5, (5,)), (0, 1, (0, 1)), (1, 0, (1, 0)), (5, 3, (5, 4, 0, 1, 3)), (3, 5, (3, 1, 0, 4, 5)),
                                  (2, 6, (2, 0, 1, 6)), (3, 6, (3, 1, 6)), (6, 5, (6, 1, 0, 4, 5))]:
            self.assertEqual(self.told(path, TREE, ALL, one, other), found)
        self.assertEqual(self.told(path, TREE, (1, 3, 6), 6, 3), (6, 1, 3))
        self.assertEqual(self.told(path, TREE, (6,), 6, 6), (6,))

    def test_ends(self):
        for live, found in [(ALL, (2, 3, 5, 6)), ((0,), (0,)), ((0, 1), (0, 1)), ((0, 1, 2), (1, 2)), ((0, 1, 3), (0, 3)), ((1, 3, 6), (3, 6)),
                            ((4, 5), (4, 5)), ((0, 1, 3, 6), (0, 3, 6))]:
            self.assertEqual(self.told(ends_of, TREE, live), found)

    def test_outwards(self):
        for live, version, found in [
                (ALL, 0, [(0, 1), (0, 2), (0, 4), (1, 3), (4, 5), (1, 6)]), (ALL, 3, [(3, 1), (1, 0), (1, 6), (0, 2), (0, 4), (4, 5)]),
                (ALL, 5, [(5, 4), (4, 0), (0, 1), (0, 2), (1, 3), (1, 6)]), ((0,), 0, []), ((1, 3, 6), 6, [(6, 1), (1, 3)]),
                ((0, 1, 4, 5, 6), 6, [(6, 1), (1, 0), (0, 4), (4, 5)]), (ALL, 1, [(1, 0), (1, 3), (1, 6), (0, 2), (0, 4), (4, 5)])]:
            self.assertEqual(self.new(outwards, TREE, live, version), found)

    def test_far_by_far(self):
        """Those as far away stand by far, not by near."""
        tree = (SCHEMA, tuple((version, ("move keys", "t", 1)) for version in (0, 0, 2, 1, 1, 2, 6, 3)))
        live = tuple(range(9))
        self.assertEqual(self.new(outwards, tree, live, 0), [(0, 1), (0, 2), (2, 3), (1, 4), (1, 5), (2, 6), (6, 7), (3, 8)])

    def test_at_random(self):
        """All is told once more from the edges alone."""
        many = 0
        for seed in range(120):
            life = Life(seed)
            tree = life.tree(5)
            self.so(is_tree, tree)
            schemas = [tree[0]]
            for version, change in tree[1]:
                self.assertIsNone(refusal(schemas[version], change))
                schemas.append(child_by(schemas[version], change))
            self.assertEqual(schemas_of(tree), schemas)
            self.assertEqual([schema_at(tree, version) for version in range(len(schemas))], schemas)
            live = life.live(tree)
            self.so(is_live, tree, live)
            edges = {(version, at + 1) for at, (version, _) in enumerate(tree[1])}
            joined = {pair for pair in edges if pair[0] in live and pair[1] in live}
            both = joined | {(child, parent) for parent, child in joined}
            for version in live:
                self.assertEqual(neighbours(tree, live, version), tuple(sorted(far for near, far in both if near == version)))
                far_from = {version: 0}
                for near, far in self.new(outwards, tree, live, version):
                    self.assertIn((near, far), both)
                    self.assertNotIn(far, far_from)
                    far_from[far] = far_from[near] + 1
                    route = path(tree, live, version, far)
                    self.assertEqual((route[0], route[-1], len(route)), (version, far, far_from[far] + 1))
                    self.assertTrue(all(pair in both for pair in zip(route, route[1:])))
                    self.assertEqual(path(tree, live, far, version), route[::-1])
                self.assertEqual(sorted(far_from), list(live))
                order = [(far_from[far], far) for _, far in outwards(tree, live, version)]
                self.assertEqual(order, sorted(order))
            self.assertEqual(ends_of(tree, live), tuple(version for version in live if sum(near == version for near, _ in both) < 2))
            for parent, child in edges:
                is_child = wide_side(schemas[parent], tree[1][child - 1][1]) == "child"
                self.assertIs(is_far_wide(tree, parent, child), is_child)
                self.assertIs(is_far_wide(tree, child, parent), not is_child)
            many += len(live) > 3
        self.assertGreater(many, 20)


if __name__ == "__main__":
    unittest.main()
