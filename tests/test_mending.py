"""[51], [52] and [53]: what a DISK that was torn tells, and how it is mended; [10]."""

import unittest

from everyversion.cells import cells_of
from everyversion.logs import is_clean, phases_of, torn
from everyversion.mending import kept_on, lies_between, mended, mending, phases_to, rows_written, told_by
from everyversion.moving import begun, do_amid, ended, pieces_left, stepped
from everyversion.store import with_home
from everyversion.storedeeds import do, grow, take_away
from everyversion.trees import neighbours, schema_at
from lives import Life
from moves import CASES
from samples import ALWAYS, ANYTHING, News, spoiled, turned_about
from tears import ONE, OTHER, PAIRS, all_tears, apply, same, subsets
from test_moving import moving_with, store_with
from versions import put, store_at


def tears(one, other):
    return all_tears(one, phases_of(one, other))


class Mending(News):

    def test_mending(self):
        phases = phases_of(ONE, OTHER)
        logged = (("take", ("log", 0)), ("take", ("log", 1)), ("take", ("log", 2)))
        self.assertEqual(self.told(mending, ONE), ())
        self.assertEqual(self.told(mending, torn(ONE, phases, 0, ())), ())
        self.assertEqual(self.told(mending, torn(ONE, phases, 0, (0, 2))), ((logged[0], logged[2]),))
        self.assertEqual(self.told(mending, torn(ONE, phases, 1, ())), (logged,))
        for disk in (torn(ONE, phases, 1, (0,)), torn(ONE, phases, 2, ()), torn(ONE, phases, 2, (1,)), torn(ONE, phases, 3, ())):
            self.assertEqual(self.told(mending, turned_about(disk)), (phases[2], (("take", ("mark",)),), logged))
        self.assertEqual(self.told(mending, torn(ONE, phases, 3, (0,))), (logged,))
        self.assertEqual(self.told(mending, torn(ONE, phases, 4, (1,))), ((logged[0], logged[2]),))
        self.assertEqual(self.told(mending, torn(ONE, phases, 4, (0, 1, 2))), ())
        # Cells of the log ascend by their number, not by its digits.
        many = {("row", "t", key): () for key in range(12)}
        self.assertEqual(mending(torn({}, phases_of({}, many), 1, ())), (tuple(("take", ("log", index)) for index in range(12)),))
        self.assertEqual(mending(torn({}, phases_of({}, many), 2, (7,)))[0], phases_of({}, many)[2])

    def test_old_or_new(self):
        for one, other in PAIRS:
            phases = phases_of(one, other)
            for index, phase in enumerate(phases):
                for lot in subsets(range(len(phase))):
                    disk = torn(one, phases, index, tuple(lot))
                    # What comes ahead of the mark is old.
                    is_new = (index, len(lot)) >= (1, 1)
                    whole = other if is_new else one
                    self.assertTrue(same(self.new(mended, turned_about(disk)), whole))
                    self.assertEqual(self.told(told_by, one, other, turned_about(disk)), "new" if is_new else "old")
                    self.so(lies_between, one, other, turned_about(disk))
                    self.assertTrue(is_clean(mended(disk)))

    def test_both_the_same(self):
        for one, _ in PAIRS:
            self.assertEqual(self.told(told_by, one, turned_about(one), one), "old")
            self.so(lies_between, one, one, one)
            self.assertEqual(self.new(mended, turned_about(one)), one)
            for disk in ({**one, ("mark",): 0}, {**one, ("log", 0): ("take", ("a",))}, {**one, ("z",): 1}):
                self.not_so(lies_between, one, one, disk)

    def test_torn_again_and_again(self):
        """However often power fails amid mending, what is left lies between both, and tells the same."""
        for one, other in PAIRS:
            for disk in tears(one, other):
                told = told_by(one, other, disk)
                for again in all_tears(disk, mending(disk)):
                    self.so(lies_between, one, other, again)
                    self.assertEqual(told_by(one, other, again), told)
                    self.assertEqual(mended(again), mended(disk))
                    for third in all_tears(again, mending(again))[::5]:
                        self.assertTrue(lies_between(one, other, third))
                        self.assertEqual((told_by(one, other, third), mended(third)), (told, mended(disk)))
                self.assertEqual(mended(mended(disk)), mended(disk))

    def test_lies_between(self):
        """Of DISKS that are nearly such, just those lie between both that come of a tear."""
        for one, other in PAIRS:
            there = tears(one, other) + [other]
            nearly = [disk for disk in (one, other)]
            for disk in there[::3]:
                nearly.extend({**disk, address: thing} for address in list(disk) for thing in spoiled(disk[address]))
                nearly.extend({key: disk[key] for key in disk if key != address} for address in disk)
                nearly.extend([{**disk, ("log", 0): ("take", ("a",))}, {**disk, ("log", 9): ("take", ("a",))}, {**disk, ("mark",): 1},
                               {**disk, ("mark",): True}, {**disk, ("q", 1): None}, {**one, **disk}, {**disk, **other}, {**disk, ("log",): 0}])
            for disk in nearly:
                is_there = any(same(disk, told) for told in there)
                self.assertIs(lies_between(one, other, disk), is_there, (one, other, disk))

    def test_lies_between_of_any_value(self):
        for thing in ANYTHING:
            self.assertIs(lies_between(ONE, OTHER, thing), False)
            self.assertIs(lies_between({}, ONE, thing), thing == {} and isinstance(thing, dict))
            self.assertIs(lies_between(ONE, OTHER, {**ONE, ("home",): thing}), isinstance(thing, int) and repr(thing) == "0")
        for thing in [{None: 1}, {**ONE, None: 1}, {**ONE, "log": 1}, {**ONE, 0: ()}, list(ONE.items()), tuple(ONE), {("log", None): 1, **ONE}, {("mark",): None, **ONE},
                      {("log", "0"): ("take", ("a",)), **ONE}, {**OTHER, (): ()}, {**OTHER, ("mark",): 3}, {**ONE, ("mark",): 3}]:
            self.not_so(lies_between, ONE, OTHER, thing)
        # A key that is True is none that is 1.
        one, other = {("row", "t", 1): (1,)}, {("row", "t", 1): (2,)}
        log = ("put", ("row", "t", 1), (2,))
        self.so(lies_between, one, other, {("row", "t", 1): (1,), ("log", 0): log})
        self.not_so(lies_between, one, other, {("row", "t", True): (1,)})
        self.not_so(lies_between, one, other, {("row", "t", 1): (1,), ("log", False): log})
        self.not_so(lies_between, one, other, {("row", "t", 1): (1,), ("log", 0): ("put", ("row", "t", True), (2,))})
        self.not_so(lies_between, one, other, {("row", "t", 1): (1,), ("log", 0): log, ("mark",): True})


class Kept(News):

    def each(self):
        """Tell tuples (what is kept, what is kept behind a deed)."""
        store = store_at(0)
        moving = begun(store, 1)
        half = stepped(moving, ("t", 7))
        whole = stepped(half, ("t", 8))
        yield store, do(store, 2, (put("x", ("num", 0)), ("take", "t", ("=", ("key",), ("num", 8)))))[1]
        yield store, moving
        yield moving, half
        yield half, do_amid(half, 1, (put("b", ("num", 0)), ("add", "t", 9, (1, 1))))[1]
        yield whole, ended(whole)
        yield store, grow(store, 4, ("add table", "m", ((), ALWAYS)))
        yield store, take_away(store, 3)
        yield store, with_home(store, 2)

    def test_cuts_at_each_write(self):
        """Behind each single write of each deed, what is kept is that ahead of it, or that behind it."""
        for before, after in self.each():
            disk = cells_of(before)
            phases = self.told(phases_to, disk, after)
            self.assertEqual(phases, phases_of(disk, cells_of(after)))
            writes = [write for phase in phases for write in phase]
            many = len(phases[0])
            for done in range(len(writes) + 1):
                left = apply(disk, writes[:done])
                self.assertEqual(self.new(kept_on, left), before if done <= many else after)
                self.so(lies_between, disk, cells_of(after), left)
            # The writes of one phase are done in any order.
            for index in (0, 2, 4):
                for lot in subsets(range(many))[:40]:
                    left = torn(disk, phases, index, tuple(lot))
                    self.assertEqual(kept_on(left), before if index == 0 else after)

    def test_nothing_to_write(self):
        for before, after in self.each():
            self.assertEqual(self.told(phases_to, cells_of(before), before), ())
            self.assertEqual(kept_on(cells_of(after)), after)
        self.assertEqual(rows_written(()), 0)

    def test_rows_written(self):
        store = store_at(0)
        moving = begun(store, 1)
        self.assertEqual(rows_written(phases_to(cells_of(store), moving)), 0)
        self.assertEqual(self.told(rows_written, phases_to(cells_of(moving), stepped(moving, ("t", 7)))), 2)
        self.assertEqual(rows_written(phases_to(cells_of(store), do(store, 0, (put("a", ("num", 9)),))[1])), 1)
        self.assertEqual(rows_written(phases_to(cells_of(store), do(store, 1, (put("b", ("num", 3)),))[1])), 0)
        moves = CASES["move keys"]
        self.assertEqual(rows_written(phases_to(cells_of(store_with(moves, 0)), store_with(moves, 1))), 6)
        # Cells of rows are counted, of whatever table.
        one, other = {("row", "t", 1): (), ("moved", "t", 1): True}, {("laid", "u", 1): (), ("row", "laid", 2): (), ("hidden", 1, 2): ()}
        self.assertEqual(rows_written(phases_of(one, other)), 3)
        self.assertEqual(rows_written(phases_of({("home",): 1}, {("home",): 2, ("laids", 1): 1})), 0)

    def test_a_step_writes_one_piece_alone(self):
        for case in CASES.values():
            for home in (0, 1):
                for moved in ((), case.pieces[:1]):
                    moving = moving_with(case, home, moved)
                    for piece in pieces_left(moving):
                        places = case.places[piece]
                        side, there = ("child", "parent") if home else ("parent", "child")
                        allowed = [("row",) + place for place in places[side]] + [("laid",) + place for place in places[there]]
                        allowed += [("moved",) + piece, ("hidden", 1, piece[1])]
                        phases = phases_to(cells_of(moving), stepped(moving, piece))
                        written = [write[1] for write in phases[2]]
                        self.assertLessEqual(set(written), set(allowed))
                        self.assertEqual(rows_written(phases), len([one for one in written if one[0] in ("row", "laid")]))

    def test_at_random(self):
        both = 0
        for seed in range(60):
            life = Life(seed)
            kept = life.store(4)
            if len(kept[1]) == 1:
                continue
            moving = begun(kept, life.one(neighbours(kept[0], kept[1], kept[2])))
            for piece in life.some(pieces_left(moving), 0, 2):
                moving = stepped(moving, piece)
            version = life.one(moving[1])
            copies = kept_on(cells_of(moving))
            self.assertEqual(copies, moving)
            later = moving
            for _ in range(3):
                transaction = life.transaction(schema_at(moving[0], version))
                try:
                    later = do_amid(moving, version, transaction)[1]
                except ValueError:
                    continue
            disk = cells_of(moving)
            phases = phases_to(disk, later)
            for index, phase in enumerate(phases):
                lot = tuple(life.some(range(len(phase)), 0, len(phase)))
                left = torn(disk, phases, index, lot)
                told = told_by(disk, cells_of(later), left)
                self.assertEqual(kept_on(left), later if told == "new" else moving)
                both += 1
        self.assertGreater(both, 20)


if __name__ == "__main__":
    unittest.main()
