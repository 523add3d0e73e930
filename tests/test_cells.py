"""[49]: the CELLS of a STORE and of a MOVING STORE."""

import unittest

from everyversion.cells import cells_of, kept_by
from everyversion.moving import begun, pieces_left, stepped
from everyversion.store import store_of
from everyversion.trees import neighbours, schema_at
from lives import Life
from moves import CASES
from samples import News, turned_about
from test_moving import moving_with, store_with, turned as moving_turned
from versions import COPIES, HIDDENS, LIVE, TREE, store_at, turned


def rows_told(word, database):
    return {(word, table, key): row for table, rows in database.items() for key, row in rows.items()}


def hiddens_told(hiddens):
    found = {("hidden", edge): True for edge in hiddens}
    for edge, told in hiddens.items():
        found.update({("hidden", edge, key): thing for key, thing in told.items()})
    return found


class Cells(News):

    def both(self, kept, other_order, cells):
        self.assertEqual(self.new(cells_of, other_order), cells)
        for address, told in cells_of(kept).items():
            self.assertEqual(repr(told), repr(cells[address]))
        self.assertEqual(self.new(kept_by, turned_about(cells)), kept)

    def test_stores(self):
        self.both(store_at(4), turned(store_at(4)), {
            ("tree",): TREE, ("live",): LIVE, ("home",): 4, ("row", "t", 7): (), ("row", "t", 8): (), ("hidden", 1): True, ("hidden", 1, 7): 4,
            ("hidden", 3): True, ("hidden", 3, 1): (7, 2), ("hidden", 3, 2): (8, 2), ("hidden", 3, 3): (7, None),
            ("hidden", 4): True, ("hidden", 4, 7): 30})
        for home in LIVE:
            start = {("tree",): TREE, ("live",): LIVE, ("home",): home}
            cells = {**start, **rows_told("row", COPIES[home]), **hiddens_told(HIDDENS[home])}
            self.both(store_at(home), turned(store_at(home)), cells)

    def test_moving(self):
        moving = stepped(begun(store_at(0), 1), ("t", 7))
        self.both(moving, moving_turned(moving), {
            ("tree",): TREE, ("live",): LIVE, ("home",): 0, ("goal",): 1, ("moved", "t", 7): True, ("row", "t", 8): (9,), ("laid", "t", 7): (30, 4),
            ("hidden", 1): True, ("hidden", 2): True, ("hidden", 3): True, ("hidden", 3, 1): (7, 2), ("hidden", 3, 2): (8, 2), ("hidden", 3, 3): (7, None)})
        for case in CASES.values():
            for home in (0, 1):
                for moved in ((), case.pieces[:1], case.pieces[1:], case.pieces):
                    kept = moving_with(case, home, moved)
                    cells = {("tree",): kept[0], ("live",): (0, 1), ("home",): home, ("goal",): 1 - home, **rows_told("row", kept[5]),
                             **rows_told("laid", kept[6]), **{("moved",) + piece: True for piece in moved}, **hiddens_told(kept[7])}
                    self.both(kept, moving_turned(kept), cells)

    def test_without_rows(self):
        tree = (TREE[0], ())
        store = store_of(tree, (0,), 0, {0: {"t": {}}})
        self.both(store, store, {("tree",): tree, ("live",): (0,), ("home",): 0})
        nothing = (((), ()), ())
        store = store_of(nothing, (0,), 0, {0: {}})
        self.both(store, store, {("tree",): nothing, ("live",): (0,), ("home",): 0})
        # Tables without rows are told by the SCHEMA.
        for case in CASES.values():
            tree = store_with(case, 0)[0]
            empty = {version: {table: {} for table, _ in schema_at(tree, version)[0]} for version in (0, 1)}
            for home in (0, 1):
                kept = begun(store_of(tree, (0, 1), home, empty), 1 - home)
                start = {("tree",): tree, ("live",): (0, 1), ("home",): home, ("goal",): 1 - home}
                self.both(kept, kept, {**start, **{("hidden", 1): True for _ in kept[7]}})

    def test_at_random(self):
        moved = 0
        for seed in range(100):
            life = Life(seed)
            kept = life.store(4)
            self.assertEqual(self.new(kept_by, turned_about(self.new(cells_of, kept))), kept)
            if len(kept[1]) > 1:
                kept = begun(kept, life.one(neighbours(kept[0], kept[1], kept[2])))
                for piece in life.some(pieces_left(kept), 0, 4):
                    kept = stepped(kept, piece)
                    moved += 1
                self.assertEqual(self.new(kept_by, turned_about(self.new(cells_of, kept))), kept)
        self.assertGreater(moved, 20)


if __name__ == "__main__":
    unittest.main()
