"""[55]: the plain MEANING of what is kept, and what each LINE means; [7], [9]."""

import unittest

from everyversion.copies import done, grown, taken_away
from everyversion.meanings import first_meaning, meaning_of, meant
from everyversion.moving import begun, pieces_left, stepped
from everyversion.store import copies_of
from everyversion.trees import neighbours
from lives import Life
from moves import CASES
from samples import ALWAYS, News, turned_about
from tellings import ALONE, ALONE_TOLD, GROW, P7, P8, REFUSALS, kept_at, meaning_at
from test_moving import moving_with, store_with, turned as moving_turned
from versions import COPIES, LIVE, SCHEMA, TREE, put, store_at, turned


def other_order(meaning):
    return meaning[:2] + (turned_about(meaning[2]),) + meaning[3:]


class Meanings(News):

    def test_first(self):
        self.assertEqual(self.new(first_meaning, SCHEMA), ((SCHEMA, ()), (0,), {0: {"t": {}}}, 0, None, ()))
        self.assertEqual(self.new(first_meaning, ((), ())), ((((), ()), ()), (0,), {0: {}}, 0, None, ()))

    def test_not_done(self):
        """What is not done changes nothing, and the first that is so is told."""
        for (home, goal, moved), line, told in REFUSALS:
            meaning = meaning_at(home, goal, moved)
            said, behind = self.new(meant, other_order(meaning), line)
            self.assertEqual((said, behind), (told, meaning), (home, goal, moved, line))
        self.assertEqual({told[1] for _, _, told in REFUSALS}, {
            "version", "transaction", "refused", "taken", "end", "home", "moving", "resting", "neighbour", "piece", "moved"})
        first = first_meaning(SCHEMA)
        for line, told in zip(ALONE, ALONE_TOLD):
            self.assertEqual(self.new(meant, first, line), (told, first))

    def test_do(self):
        for home, goal, moved, version, transaction, left in [
                (0, None, (), 2, (put("x", ("num", 1)), ("ask", ("count", "t", ALWAYS))), ()), (0, 1, (P7, P8), 3, (), (P7, P8)),
                (0, 1, (P7, P8), 4, (("take", "t", ("=", ("key",), ("num", 7))),), (P8,)), (0, 1, (P7,), 1, (("add", "t", 9, (1, 1)),), (P7,)),
                (0, 1, (P7,), 0, (("take", "t", ALWAYS), ("add", "t", 7, (1,))), (P7,)), (4, 2, (P8,), 0, (("take", "t", ALWAYS),), ()),
                (1, 3, (("n", 1), ("n", 2)), 0, (("take", "t", ("=", ("key",), ("num", 7))),), (("n", 2),)),
                (3, 1, (("n", 2), ("n", 3)), 3, (("take", "n", ("=", ("key",), ("num", 3))),), (("n", 2),))]:
            answers, copies = done(TREE, LIVE, COPIES, version, transaction)
            told = self.new(meant, other_order(meaning_at(home, goal, moved)), ("do", version, transaction))
            self.assertEqual(told, (("answers", answers), (TREE, LIVE, copies, home, goal, left)))

    def test_grow_and_away(self):
        for home, goal, moved in [(0, None, ()), (0, 1, (P7,)), (1, 0, (P7, P8)), (3, 1, ()), (4, 2, (P8,))]:
            tree, live, copies = grown(TREE, LIVE, COPIES, 2, ("call table", "t", "u"))
            told = self.new(meant, other_order(meaning_at(home, goal, moved)), ("grow", 2, ("call table", "t", "u")))
            self.assertEqual(told, (("version", 5), (tree, live, copies, home, goal, moved)))
            for version in (3, 4):
                if version not in (home, goal):
                    live, copies = taken_away(TREE, LIVE, COPIES, version)
                    told = self.new(meant, other_order(meaning_at(home, goal, moved)), ("away", version))
                    self.assertEqual(told, (("done",), (TREE, live, copies, home, goal, moved)))
        # The number of a version that went away is not told again.
        less = meant(meaning_at(0), ("away", 4))[1]
        self.assertEqual(meant(less, ("grow", 0, GROW))[0], ("version", 5))
        self.assertEqual(meant(less, ("grow", 0, GROW))[1][1], (0, 1, 2, 3, 5))
        self.assertEqual(meant(less, ("do", 4, ()))[0], ("not", "version", (4,)))

    def test_moves(self):
        for line, start, behind in [
                (("begin", 1), (0,), (0, 1, ())), (("begin", 0), (2,), (2, 0, ())), (("step", P8), (0, 1, ()), (0, 1, (P8,))),
                (("step", P7), (0, 1, (P8,)), (0, 1, (P7, P8))), (("end",), (0, 1, (P7, P8)), (1,)), (("step", ("n", 2)), (1, 3, ()), (1, 3, (("n", 2),))),
                (("step", ("n", 1)), (3, 1, (("n", 2),)), (3, 1, (("n", 1), ("n", 2)))), (("end",), (3, 1, (("n", 1), ("n", 2), ("n", 3))), (1,))]:
            told = self.new(meant, other_order(meaning_at(*start)), line)
            self.assertEqual(told, (("done",), meaning_at(*behind)))
        for case in CASES.values():
            for home in (0, 1):
                store = store_with(case, home)
                meaning = (store[0], (0, 1), copies_of(store), home, None, ())
                meaning = meant(meaning, ("begin", 1 - home))[1]
                for many, piece in enumerate(case.pieces):
                    self.assertEqual(meaning, (store[0], (0, 1), copies_of(store), home, 1 - home, case.pieces[:many]))
                    self.assertEqual(meant(meaning, ("end",)), (("not", "moved", (piece,)), meaning))
                    meaning = meant(meaning, ("step", piece))[1]
                self.assertEqual(meant(meaning, ("end",)), (("done",), (store[0], (0, 1), copies_of(store), 1 - home, None, ())))

    def test_meaning_of(self):
        for home in LIVE:
            self.assertEqual(self.new(meaning_of, turned(store_at(home))), meaning_at(home))
        for home, goal, moved in [(0, 1, ()), (0, 1, (P7,)), (1, 0, (P7, P8)), (3, 1, (("n", 2),)), (1, 3, (("n", 1), ("n", 3)))]:
            self.assertEqual(self.new(meaning_of, moving_turned(kept_at(home, goal, moved))), meaning_at(home, goal, moved))
        for case in CASES.values():
            for home in (0, 1):
                for moved in (case.pieces[:1], case.pieces[1:]):
                    copies = {0: case.databases["parent"], 1: case.databases["child"]}
                    moving = moving_with(case, home, moved)
                    self.assertEqual(self.new(meaning_of, moving), (moving[0], (0, 1), copies, home, 1 - home, moved))

    def test_at_random(self):
        many = 0
        for seed in range(80):
            life = Life(seed)
            store = life.store(4)
            self.assertEqual(self.new(meaning_of, store), (store[0], store[1], copies_of(store), store[2], None, ()))
            near = neighbours(store[0], store[1], store[2])
            if near:
                moving = begun(store, life.one(near))
                for piece in life.some(pieces_left(moving), 0, 3):
                    moving = stepped(moving, piece)
                self.assertEqual(self.new(meaning_of, moving), (store[0], store[1], copies_of(store)) + moving[2:5])
                many += len(moving[4]) > 0
        self.assertGreater(many, 10)


if __name__ == "__main__":
    unittest.main()
