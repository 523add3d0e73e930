"""The guarantees [5] to [10], of the whole program."""

import unittest

from everyversion.cells import cells_of
from everyversion.changes import CHANGES, child_by
from everyversion.copies import are_copies, done
from everyversion.databases import is_right
from everyversion.errors import Refused
from everyversion.fitting import carried, fits
from everyversion.forms import is_database, is_schema
from everyversion.logs import phases_of, torn
from everyversion.mending import kept_on, mended, mending
from everyversion.moving import is_moving, pieces_left, store_told, view_amid
from everyversion.refusals import back_change, is_reason, refusal
from everyversion.running import run
from everyversion.sidebyside import first_disk, kept_behind
from everyversion.sides import agree, full, hidden, narrowed, wide_side
from everyversion.store import copies_of, is_store, kept_many, store_of, view
from everyversion.trees import schema_at
from courses import course_at
from lives import HIDING, Life, sides_of, taken_changes
from samples import News


class Changes(News):
    """[5]"""

    def test_there_and_back(self):
        words = set()
        for life, schema, change in taken_changes(300, CHANGES):
            child = child_by(schema, change)
            self.so(is_schema, child)
            back = back_change(schema, change)
            self.assertIsNone(refusal(child, back))
            again = child_by(child, back)
            self.so(is_schema, again)
            # ALIKE: the checks may be told otherwise, but the same is right.
            self.assertEqual([(table, told[0]) for table, told in again[0]], [(table, told[0]) for table, told in schema[0]])
            self.assertEqual(again[1], schema[1])
            for _ in range(3):
                for one in (life.database(schema), life.database(again), self.any_database(life, schema)):
                    self.assertEqual(is_right(schema, one), is_right(again, one))
            words.add(change[0])
        self.assertEqual(words, set(CHANGES))

    def any_database(self, life, schema):
        keys = life.keys(schema, 3)
        return {table: {key: life.row(schema, table) for key in keys[table]} for table in keys}

    def test_reasons(self):
        words = set()
        for seed in range(600):
            life = Life(seed)
            schema = life.schema()
            change = life.change(schema)
            reason = refusal(schema, change)
            if reason is not None:
                self.so(is_reason, schema, change, reason)
                words.add(reason[0])
        self.assertGreater(len(words), 9)


class Sides(News):
    """[6]"""

    def test_sides(self):
        words, kept, fell = set(), 0, 0
        for life, schema, change in taken_changes(500, [*CHANGES, *HIDING, *HIDING]):
            broad, slim = sides_of(schema, change)
            side = wide_side(schema, change)
            narrow_side = "child" if side == "parent" else "parent"
            wide = life.near(broad, life.database(broad))
            narrow, beside = narrowed(schema, change, wide), hidden(schema, change, wide)
            self.assertTrue(is_database(slim, narrow) and is_right(slim, narrow))
            self.assertTrue(agree(schema, change, *((wide, narrow) if side == "parent" else (narrow, wide))))
            self.assertEqual(full(schema, change, narrow, beside), wide)
            self.assertEqual(carried(schema, change, narrow_side, narrow, wide), wide)
            other = life.one([life.near(slim, narrow), life.database(slim)])
            told = carried(schema, change, narrow_side, other, wide)
            self.assertTrue(is_database(broad, told) and is_right(broad, told))
            self.assertEqual(narrowed(schema, change, told), other)
            left = hidden(schema, change, told)
            self.assertTrue(fits(schema, change, other, left))
            kept += len(left)
            fell += len(beside) - len(left)
            words.add(change[0])
        self.assertEqual(words, set(CHANGES))
        self.assertGreater(min(kept, fell), 20, (kept, fell))


class Lives(News):
    """[7] and [8], LINE by LINE of a COURSE."""

    def test_versions(self):
        own, others = 0, 0
        for seed in range(60):
            life, schema, course = course_at(seed, 20)
            kept = kept_on(first_disk(schema))
            for line in [line for line in course if line[0] != "cut"]:
                copies = copies_of(store_told(kept)) if len(kept) == 8 else copies_of(kept)
                self.so(are_copies, kept[0], kept[1], copies)
                told, behind = kept_behind(kept, line)
                store = store_told(behind) if len(behind) == 8 else behind
                after = copies_of(store)
                # One version's DATABASE, and what is HIDDEN, tell all.
                self.assertEqual(store_of(store[0], store[1], store[2], after), store)
                self.assertEqual({version: view(store, version) for version in store[1]}, after)
                self.assertEqual(kept_many(store), (sum(map(len, store[3].values())), sum(len(rows) for one in after.values() for rows in one.values())))
                if told[0] == "answers":
                    # As if the version were alone.
                    self.assertEqual(run(schema_at(kept[0], line[1]), copies[line[1]], line[2]), (told[1], after[line[1]]))
                    self.assertEqual(done(kept[0], kept[1], copies, line[1], line[2]), (told[1], after))
                    own += after[line[1]] != copies[line[1]]
                    others += any(after[one] != copies[one] for one in after if one != line[1])
                elif told[:2] == ("not", "refused"):
                    with self.assertRaises(Refused) as caught:
                        run(schema_at(kept[0], line[1]), copies[line[1]], line[2])
                    self.assertEqual((caught.exception.index, caught.exception.reason), told[2])
                else:
                    # All else leaves the copies as they are, of versions that are there ahead of it and behind it.
                    both = [version for version in copies if version in after]
                    self.assertEqual([copies[version] for version in both], [after[version] for version in both])
                    self.assertEqual(len(set(copies) ^ set(after)), told[0] == "version" or (line[0], told) == ("away", ("done",)))
                kept = behind
        self.assertGreater(min(own, others), 60)


class Moving(News):
    """[9]: no step changes a copy, and when all PIECES have moved, the goal is the home."""

    def test_moving(self):
        steps, ends = 0, 0
        for seed in range(60):
            life, schema, course = course_at(seed, 25)
            kept = kept_on(first_disk(schema))
            for line in [line for line in course if line[0] != "cut"]:
                told, behind = kept_behind(kept, line)
                if line[0] in ("begin", "step") and told == ("done",):
                    self.so(is_moving, behind)
                    views = {version: view_amid(behind, version) for version in behind[1]}
                    self.assertEqual(views, copies_of(kept) if line[0] == "begin" else {version: view_amid(kept, version) for version in kept[1]})
                    if line[0] == "step":
                        self.assertEqual(sorted(pieces_left(behind) + (line[1],)), list(pieces_left(kept)))
                        steps += 1
                if line[0] == "end" and told == ("done",):
                    self.so(is_store, behind)
                    self.assertEqual((behind[2], copies_of(behind)), (kept[3], copies_of(store_told(kept))))
                    ends += 1
                kept = behind
        self.assertGreater(min(steps, ends), 30)


class Cuts(News):
    """[10]: mended, a DISK is that ahead of a deed, or that behind it, whole, however often power fails."""

    def test_cuts(self):
        old, new = 0, 0
        for seed in range(60):
            life, schema, course = course_at(seed, 20)
            kept = kept_on(first_disk(schema))
            for line in [line for line in course if line[0] != "cut"]:
                behind = kept_behind(kept, line)[1]
                disk, cells = cells_of(kept), cells_of(behind)
                phases = phases_of(disk, cells)
                if phases != ():
                    index = life.one(range(5))
                    left = torn(disk, phases, index, tuple(life.some(range(len(phases[index])), 0, 20)))
                    whole = mended(left)
                    self.assertIn(whole, (disk, cells))
                    self.assertEqual(mended(whole), whole)
                    for _ in range(4):
                        again = mending(left)
                        if again != ():
                            index = life.one(range(len(again)))
                            left = torn(left, again, index, tuple(life.some(range(len(again[index])), 0, 20)))
                        self.assertEqual(mended(left), whole)
                    self.assertEqual(kept_on(left), kept if whole == disk else behind)
                    old += whole == disk
                    new += whole == cells
                kept = behind
        self.assertGreater(min(old, new), 50)


if __name__ == "__main__":
    unittest.main()
