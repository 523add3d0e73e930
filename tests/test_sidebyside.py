"""[56]: COURSES on a DISK, with cuts, beside the plain MEANING; [8], [9], [10]."""

import unittest
from unittest import mock

from everyversion import sidebyside
from everyversion.cells import cells_of
from everyversion.changes import CHANGES
from everyversion.logs import is_clean, phases_of, torn
from everyversion.meanings import first_meaning, meaning_of, meant
from everyversion.mending import kept_on, mended, told_by
from everyversion.moving import begun, do_amid, ended, grow_amid, is_moving, stepped, take_away_amid
from everyversion.sidebyside import disk_behind, first_apart, first_disk, happened_in, kept_behind, run_disk, run_meaning
from everyversion.store import is_store, store_of
from everyversion.storedeeds import do, grow, take_away
from courses import course_at
from samples import ALWAYS, News, turned_about
from tears import subsets
from tellings import ALONE, ALONE_TOLD, GROW, P7, P8, REFUSALS, kept_at
from test_moving import turned as moving_turned
from versions import SCHEMA, put, turned

CUT = ("not", "cut", ())
DONE = ("done",)
ADD = ("do", 0, (("add", "t", 7, (30,)), ("ask", ("count", "t", ALWAYS))))
GROWN = ("grow", 0, ("add column", "t", "b", ("below", 5), 2))
SET = ("do", 1, (put("b", ("num", 4)),))


def other_order(kept):
    return turned(kept) if len(kept) == 5 else moving_turned(kept)


class KeptBehind(News):

    def test_not_done(self):
        for (home, goal, moved), line, told in REFUSALS:
            kept = kept_at(home, goal, moved)
            self.assertEqual(self.new(kept_behind, other_order(kept), line), (told, kept), (home, goal, moved, line))
        first = store_of((SCHEMA, ()), (0,), 0, {0: {"t": {}}})
        for line, told in zip(ALONE, ALONE_TOLD):
            self.assertEqual(self.new(kept_behind, first, line), (told, first))

    def test_done(self):
        transaction = (put("x", ("num", 1)), ("ask", ("total", "t", ALWAYS, ("col", "x"))))
        call, half, whole = ("call table", "t", "u"), kept_at(0, 1, (P7,)), kept_at(0, 1, (P7, P8))
        for kept, line, told, behind in [
                (kept_at(0), ("do", 2, transaction), ("answers", [2]), do(kept_at(0), 2, transaction)[1]),
                (half, ("do", 2, transaction), ("answers", [2]), do_amid(half, 2, transaction)[1]),
                (kept_at(0), ("do", 2, ()), ("answers", []), kept_at(0)), (half, ("do", 2, ()), ("answers", []), half),
                (kept_at(2), ("grow", 2, call), ("version", 5), grow(kept_at(2), 2, call)), (half, ("grow", 2, call), ("version", 5), grow_amid(half, 2, call)),
                (kept_at(0), ("away", 3), DONE, take_away(kept_at(0), 3)), (half, ("away", 3), DONE, take_away_amid(half, 3)),
                (kept_at(0), ("begin", 1), DONE, begun(kept_at(0), 1)), (half, ("step", P8), DONE, stepped(half, P8)), (whole, ("end",), DONE, ended(whole))]:
            self.assertEqual(self.new(kept_behind, other_order(kept), line), (told, behind))
            self.assertEqual(meant(meaning_of(kept), line), (told, meaning_of(behind)))


class Disks(News):

    def test_first_disk(self):
        self.assertEqual(self.new(first_disk, SCHEMA), {("tree",): (SCHEMA, ()), ("live",): (0,), ("home",): 0})
        self.assertEqual(meaning_of(kept_on(first_disk(SCHEMA))), first_meaning(SCHEMA))

    def test_whole(self):
        for (home, goal, moved), line, told in REFUSALS:
            disk = cells_of(kept_at(home, goal, moved))
            self.assertEqual(self.new(disk_behind, turned_about(disk), line, None), (told, disk))
            # Nothing is written, so nothing is torn.
            self.assertEqual(self.new(disk_behind, turned_about(disk), line, (0, ())), (told, disk))
        half = kept_at(0, 1, (P7,))
        for kept, line in [(kept_at(0), ("do", 2, (put("x", ("num", 1)),))), (half, ("step", P8)), (half, ("grow", 2, GROW)), (half, ("away", 4))]:
            told, behind = kept_behind(kept, line)
            self.assertEqual(self.new(disk_behind, turned_about(cells_of(kept)), line, None), (told, cells_of(behind)))

    def test_torn_anywhere(self):
        half, whole = kept_at(0, 1, (P7,)), kept_at(0, 1, (P7, P8))
        for kept, line in [(kept_at(0), ("do", 2, (put("x", ("num", 1)), ("ask", ("count", "t", ALWAYS))))), (kept_at(0), ("begin", 1)), (half, ("step", P8)),
                           (whole, ("end",)), (half, ("away", 3)), (half, ("grow", 2, GROW)), (half, ("do", 1, (("take", "t", ("=", ("key",), ("num", 7))),)))]:
            told, behind = kept_behind(kept, line)
            disk, cells = cells_of(kept), cells_of(behind)
            phases = phases_of(disk, cells)
            for index, phase in enumerate(phases):
                for lot in subsets(range(len(phase)))[::3] + [list(range(len(phase)))]:
                    is_new = (index, len(lot)) >= (1, 1)
                    wanted = (told, cells) if is_new else (CUT, disk)
                    self.assertEqual(self.new(disk_behind, turned_about(disk), line, (index, tuple(lot))), wanted)
                    # Of WRITES that are not there none is done.
                    more = tuple(lot) + (len(phase), len(phase) + 7, 10 ** 30)
                    self.assertEqual(disk_behind(disk, line, (index, more)), wanted)
                    left = torn(disk, phases, index, tuple(lot))
                    self.assertEqual((told_by(disk, cells, left) == "new", mended(left)), (is_new, wanted[1]))

    def test_run_disk(self):
        self.assertEqual(self.new(run_disk, SCHEMA, ()), ([], first_disk(SCHEMA)))
        tolds, disk = self.new(run_disk, SCHEMA, (ADD, GROWN, SET))
        self.assertEqual(tolds, [("answers", [1]), ("version", 1), ("answers", [])])
        store = store_of((SCHEMA, ((0, GROWN[2]),)), (0, 1), 0, {0: {"t": {7: (30,)}}, 1: {"t": {7: (30, 4)}}})
        self.assertEqual(disk, cells_of(store))
        # A cut ahead of nothing changes nothing.
        self.assertEqual(self.new(run_disk, SCHEMA, (ADD, GROWN, SET, ("cut", 2, ()))), (tolds + [DONE], disk))

    def test_cuts_wait(self):
        early, late = ("cut", 0, (0, 1)), ("cut", 2, ())
        ask, wrong = ("do", 0, (("ask", ("count", "t", ALWAYS)),)), ("do", 7, ())
        none = first_disk(SCHEMA)
        one = run_disk(SCHEMA, (ADD,))[1]
        for course, tolds, disk in [
                ((early, ADD), [DONE, CUT], none), ((late, ADD), [DONE, ("answers", [1])], one),
                # The next one by which what is kept changes is torn, not that behind it.
                ((early, ask, wrong, ADD, ADD), [DONE, ("answers", [0]), ("not", "version", (7,)), CUT, ("answers", [1])], one),
                ((late, ADD, early, ADD), [DONE, ("answers", [1]), DONE, ("not", "refused", (0, ("there",)))], one),
                # A later cut goes ahead of one that waits.
                ((early, late, ADD), [DONE, DONE, ("answers", [1])], one), ((late, ask, early, ADD), [DONE, ("answers", [0]), DONE, CUT], none),
                ((("cut", 1, ()), ADD), [DONE, CUT], none), ((("cut", 1, (0,)), ADD), [DONE, ("answers", [1])], one),
                ((("cut", 1, (5,)), ADD), [DONE, CUT], none), ((("cut", 4, (0, 9)), ADD), [DONE, ("answers", [1])], one),
                # A version that is cut is not there.
                ((early, GROWN, SET, GROWN), [DONE, CUT, ("not", "version", (1,)), ("version", 1)], run_disk(SCHEMA, (GROWN,))[1])]:
            self.assertEqual(self.new(run_disk, SCHEMA, course), (tolds, disk), course)
            self.assertIsNone(self.told(first_apart, SCHEMA, course))

    def test_happened_in(self):
        tolds = [("answers", [1]), ("answers", [[(3, ())]]), ("version", 1), DONE, CUT, ("not", "resting", ()), ("not", "version", (1,)), CUT,
                 ("not", "refused", (0, ("there",)))]
        self.assertEqual(self.told(happened_in, tolds), (True, True, True, True, False, True, True, False, True))
        self.assertEqual(self.told(happened_in, []), ())
        self.assertTrue(all(type(so) is bool for so in happened_in(tolds)))


class Meanings(News):

    def test_run_meaning(self):
        course = (ADD, GROWN, ("cut", 0, ()), SET, ("begin", 1))
        self.assertEqual(self.new(run_meaning, SCHEMA, (), ()), ([], first_meaning(SCHEMA)))
        tree = (SCHEMA, ((0, GROWN[2]),))
        for happened, tolds, meaning in [
                ((True,) * 5, [("answers", [1]), ("version", 1), DONE, ("answers", []), DONE],
                 (tree, (0, 1), {0: {"t": {7: (30,)}}, 1: {"t": {7: (30, 4)}}}, 0, 1, ())),
                ((True, True, True, False, True), [("answers", [1]), ("version", 1), DONE, CUT, DONE],
                 (tree, (0, 1), {0: {"t": {7: (30,)}}, 1: {"t": {7: (30, 2)}}}, 0, 1, ())),
                ((False, True, True, True, False), [CUT, ("version", 1), DONE, ("answers", []), CUT], (tree, (0, 1), {0: {"t": {}}, 1: {"t": {}}}, 0, None, ())),
                ((True, False, True, True, True), [("answers", [1]), CUT, DONE, ("not", "version", (1,)), ("not", "version", (1,))],
                 ((SCHEMA, ()), (0,), {0: {"t": {7: (30,)}}}, 0, None, ())),
                ((False, False, True, False, False), [CUT, CUT, DONE, CUT, CUT], first_meaning(SCHEMA))]:
            self.assertEqual(self.new(run_meaning, SCHEMA, course, happened), (tolds, meaning))

    def test_side_by_side(self):
        """All that a DISK tells is what the plain MEANING tells, whatever is cut."""
        cut, done, moved, words, told_words = 0, 0, 0, set(), set()
        for seed in range(120):
            life, schema, course = course_at(seed, 30)
            self.assertIsNone(self.told(first_apart, schema, course))
            tolds, disk = self.new(run_disk, schema, course)
            happened = happened_in(tolds)
            said, meaning = self.new(run_meaning, schema, course, happened)
            self.assertEqual(said, tolds)
            self.assertEqual(meaning, meaning_of(kept_on(disk)))
            self.assertTrue(is_clean(disk))
            self.assertTrue((is_moving if ("goal",) in disk else is_store)(kept_on(disk)))
            cut += happened.count(False)
            done += happened.count(True)
            moved += sum(line[0] == "end" and told == DONE for line, told in zip(course, tolds))
            words |= {line[2][0] for line, told in zip(course, tolds) if line[0] == "grow" and told[0] == "version"}
            told_words |= {told[1] if told[0] == "not" else told[0] for told in tolds}
        self.assertGreater(min(cut, done, moved), 50)
        self.assertEqual(words, set(CHANGES))
        self.assertEqual(told_words, {"answers", "version", "done", "cut", "transaction", "refused", "taken", "end", "home", "moving", "resting",
                                      "neighbour", "piece", "moved"})

    def test_each_line_by_itself(self):
        """kept_behind and disk_behind lead to what meant tells, LINE by LINE."""
        for seed in range(40):
            life, schema, course = course_at(seed, 20)
            disk = first_disk(schema)
            for line in [line for line in course if line[0] != "cut"]:
                kept = kept_on(disk)
                told, behind = kept_behind(kept, line)
                self.assertEqual(meant(meaning_of(kept), line), (told, meaning_of(behind)))
                cut = life.one([None, (life.one(range(5)), tuple(life.some(range(9), 0, 9)))])
                said, later = disk_behind(disk, line, cut)
                self.assertIn((said, later), [(told, cells_of(behind)), (CUT, disk)])
                if cut is None:
                    self.assertEqual((said, later), (told, cells_of(behind)))
                disk = later

    def test_first_apart_looks(self):
        """If a DISK told something else, this would be seen behind the first LINE that does."""
        course = (ADD, GROWN, ("cut", 0, (0,)), SET, SET, ("begin", 1))
        self.assertIsNone(first_apart(SCHEMA, course))

        def grown_else(store, version, change):
            return grow(store, version, change[:4] + (3,))
        with mock.patch.object(sidebyside, "grow", grown_else):
            self.assertEqual(first_apart(SCHEMA, course), 1)

        def never_mended(disk):
            return {address: told for address, told in mended(disk).items() if address[0] != "row"}
        with mock.patch.object(sidebyside, "mended", never_mended):
            self.assertEqual(first_apart(SCHEMA, course), 3)

        def done_else(store, version, transaction):
            return ([True], do(store, version, transaction)[1])
        with mock.patch.object(sidebyside, "do", done_else):
            self.assertEqual(first_apart(SCHEMA, (GROWN, SET)), 1)


if __name__ == "__main__":
    unittest.main()
