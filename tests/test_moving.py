"""[46], [47] and [48]: a home that moves to a NEIGHBOUR, PIECE by PIECE; [9]."""

import itertools
import unittest

from everyversion.changes import CHANGES
from everyversion.copies import are_copies, done, grown, taken_away
from everyversion.errors import IsHome, NoPiece, NotEnd, NotMoved, NotNeighbour, NotTaken, Refused
from everyversion.moving import begun, do_amid, ended, grow_amid, is_moving, moving_of, pieces_left, stepped, store_told
from everyversion.moving import take_away_amid, turned_about, view_amid
from everyversion.pieces import pieces_in
from everyversion.refusals import refusal
from everyversion.store import copies_of, is_store, store_of, view, with_home
from everyversion.trees import edge_between, is_far_wide, neighbours, schema_at
from lives import Life
from moves import CASES, other
from samples import ALWAYS, ANYTHING, News, spoiled, turned_about as in_other_order
from versions import COPIES, HIDDENS, LIVE, TREE, put, store_at

KEY = ("key",)


def side_of(home):
    return "child" if home else "parent"


def tree_of(case):
    return (case.schema, ((0, case.change),))


def store_with(case, home):
    return store_of(tree_of(case), (0, 1), home, {0: case.databases["parent"], 1: case.databases["child"]})


def moving_with(case, home, moved):
    """Return the MOVING STORE of a Case, told piece by piece."""
    there = other(side_of(home))
    rest = [piece for piece in case.pieces if piece not in moved]
    entries = case.entries(rest if there == case.wide else moved)
    return (tree_of(case), (0, 1), home, 1 - home, tuple(moved), case.rest(side_of(home), moved), case.of(there, moved), {1: entries})


def some_of(things):
    return [some for many in range(len(things) + 1) for some in itertools.combinations(things, many)]


def turned(moving):
    """Return an equal MOVING STORE, the keys of its dicts in another order."""
    left, laid, hiddens = (in_other_order(part) for part in moving[5:])
    return moving[:5] + (left, laid, hiddens)


class Moves(News):

    def each(self):
        """Tell (Case, home, some PIECES) of all changes, both homes and all subsets."""
        for case in CASES.values():
            for home in (0, 1):
                for moved in some_of(case.pieces):
                    yield case, home, moved

    def raises(self, error, field, told, function, *arguments):
        before = repr(arguments)
        with self.assertRaises(error) as caught:
            function(*arguments)
        self.assertIs(type(caught.exception), error)
        self.assertEqual(repr(getattr(caught.exception, field)), repr(told))
        self.assertEqual(repr(arguments), before)

    def test_moving_of(self):
        for case, home, moved in self.each():
            store = store_with(case, home)
            moving = self.new(moving_of, store[:3] + (in_other_order(store[3]), in_other_order(store[4])), 1 - home, moved)
            self.assertEqual(moving, moving_with(case, home, moved), (case.change, home, moved))

    def test_what_it_tells(self):
        for case, home, moved in self.each():
            moving = moving_with(case, home, moved)
            self.so(is_moving, moving)
            self.so(is_moving, turned(moving))
            self.assertEqual(self.new(store_told, turned(moving)), store_with(case, home), (case.change, home, moved))
            for version in (0, 1):
                self.assertEqual(self.new(view_amid, turned(moving), version), case.databases[side_of(version)])
            rest = tuple(piece for piece in case.pieces if piece not in moved)
            self.assertEqual(self.told(pieces_left, turned(moving)), rest)
            self.assertEqual(self.new(turned_about, turned(moving)), moving_with(case, 1 - home, rest))
            self.assertEqual(turned_about(turned_about(moving)), moving)

    def test_none_and_all(self):
        for case in CASES.values():
            for home in (0, 1):
                store = store_with(case, home)
                none, whole = moving_with(case, home, ()), moving_with(case, home, case.pieces)
                self.assertEqual(self.new(begun, store, 1 - home), none)
                self.assertEqual(none[5], store[3])
                self.assertEqual(self.new(ended, whole), store_with(case, 1 - home))
                self.assertEqual(ended(whole), with_home(store, 1 - home))
                self.assertEqual(pieces_left(whole), ())
                for piece in case.pieces:
                    self.raises(NoPiece, "piece", piece, stepped, whole, piece)

    def test_any_order(self):
        for case in CASES.values():
            for home in (0, 1):
                for order in itertools.permutations(case.pieces):
                    moving, moved = begun(store_with(case, home), 1 - home), []
                    for piece in order:
                        self.raises(NotMoved, "piece", min(set(case.pieces) - set(moved)), ended, moving)
                        moving = stepped(moving, piece)
                        moved.append(piece)
                        self.assertEqual(moving, moving_with(case, home, sorted(moved)))
                        self.raises(NoPiece, "piece", piece, stepped, moving, piece)
                    self.assertEqual(ended(moving), store_with(case, 1 - home))

    def test_steps(self):
        for case, home, moved in self.each():
            moving = moving_with(case, home, moved)
            for piece in case.pieces:
                if piece in moved:
                    self.raises(NoPiece, "piece", piece, stepped, moving, piece)
                else:
                    self.assertEqual(self.new(stepped, turned(moving), piece), moving_with(case, home, sorted(moved + (piece,))))

    def test_no_pieces(self):
        for case in CASES.values():
            table, key = case.pieces[0]
            for thing in ANYTHING + [(table, 77), ("x", key), (table, str(key)), [table, key], (table, key, 0), (table,), (table, float(key)),
                                     (table, True), (table, None), ((table, key),), {table: key}]:
                self.raises(NoPiece, "piece", thing, stepped, moving_with(case, 0, ()), thing)
        # True is no 1.
        case = CASES["add table"]
        self.assertIn(("n", 1), case.pieces)
        self.raises(NoPiece, "piece", ("n", True), stepped, moving_with(case, 0, ()), ("n", True))

    def test_no_neighbours(self):
        for home in LIVE:
            near = neighbours(TREE, LIVE, home)
            for version in LIVE:
                if version in near:
                    self.assertEqual(begun(store_at(home), version)[2:4], (home, version))
                else:
                    self.raises(NotNeighbour, "version", version, begun, store_at(home), version)
        self.raises(NotNeighbour, "version", 9, begun, store_at(0), 9)
        self.raises(NotNeighbour, "version", True, begun, store_at(0), True)
        # A version that does not live any more.
        store = store_of(TREE, (0, 2), 0, {0: COPIES[0], 2: COPIES[2]})
        self.raises(NotNeighbour, "version", 1, begun, store, 1)
        self.raises(NotNeighbour, "version", 0, begun, store_of(TREE, (0,), 0, {0: COPIES[0]}), 0)

    def test_others_beside(self):
        """What is hidden at other edges stays."""
        moving = self.new(begun, store_at(1), 3)
        self.assertEqual(moving, (TREE, LIVE, 1, 3, (), COPIES[1], {"n": {}}, HIDDENS[1]))
        moving = self.new(stepped, moving, ("n", 2))
        entries = {1: (7, 2), 3: (7, None)}
        self.assertEqual(moving, (TREE, LIVE, 1, 3, (("n", 2),), COPIES[1], {"n": {2: (8, 2)}}, {2: {}, 3: entries}))
        moving = self.new(begun, store_at(3), 1)
        self.assertEqual(moving, (TREE, LIVE, 3, 1, (), COPIES[3], {}, {2: {}, 3: {}}))
        moving = self.new(stepped, moving, ("n", 2))
        self.assertEqual(moving, (TREE, LIVE, 3, 1, (("n", 2),), {"n": entries, "t": COPIES[3]["t"]}, {}, {2: {}, 3: {2: (8, 2)}}))
        for version in LIVE:
            self.assertEqual(self.new(view_amid, moving, version), COPIES[version])

    def test_ways_out_of_a_home_without_rows(self):
        for case in CASES.values():
            tree = tree_of(case)
            empty = {version: {table: {} for table, _ in schema_at(tree, version)[0]} for version in (0, 1)}
            for home in (0, 1):
                moving = begun(store_of(tree, (0, 1), home, empty), 1 - home)
                self.assertEqual(pieces_left(moving), ())
                self.assertEqual(ended(moving), store_of(tree, (0, 1), 1 - home, empty))
                self.assertEqual(turned_about(moving), begun(store_of(tree, (0, 1), 1 - home, empty), home))


class AnyValue(News):

    def test_spoiled(self):
        for case, some in [(CASES[word], some) for word in CASES for some in (0, 1, 2)]:
            for home in (0, 1):
                moving = moving_with(case, home, case.pieces[:some])
                self.so(is_moving, moving)
                for at in range(2, 8):
                    for thing in [thing for thing in spoiled(moving[at]) + ANYTHING if repr(thing) != repr(moving[at])]:
                        told = moving[:at] + (thing,) + moving[at + 1:]
                        if is_moving(told):
                            self.assertEqual(moving_of(store_told(told), told[3], told[4]), told)
                            self.assertTrue(is_store(store_told(told)))
                            self.assertIn(at, (5, 6, 7))

    def test_parts_that_do_not_go_together(self):
        for case in CASES.values():
            for home in (0, 1):
                moving = moving_with(case, home, case.pieces[:1])
                nothing, whole = moving_with(case, home, ()), moving_with(case, home, case.pieces)
                for at in (4, 5, 6):
                    # Without the rows of other PIECES than those moved it may be right as well.
                    for beside in (nothing, whole)[:1 if at == 5 else 2]:
                        if beside[at] != moving[at]:
                            self.not_so(is_moving, moving[:at] + (beside[at],) + moving[at + 1:])
                self.not_so(is_moving, moving[:4] + ((case.pieces[0], case.pieces[0]),) + moving[5:])
                self.not_so(is_moving, whole[:4] + (case.pieces[::-1],) + whole[5:])
                self.not_so(is_moving, nothing[:4] + (((case.pieces[0][0], 77),),) + nothing[5:])
                self.not_so(is_moving, moving[:4] + (tuple(sorted(moving[4] + ((case.pieces[0][0], 77),))),) + moving[5:])
                for other_goal in (home, 2, -1, None, False, True):
                    self.not_so(is_moving, moving[:3] + (other_goal,) + moving[4:])
                for other_home in (1 - home, 2, None, False, True):
                    self.not_so(is_moving, moving[:2] + (other_home,) + moving[3:])
                for live in ((home,), (1 - home,), (0, 1, 2), [0, 1], (1, 0), None):
                    self.not_so(is_moving, moving[:1] + (live,) + moving[2:])
                for hiddens in ({}, {**moving[7], 0: {}}, {**moving[7], 2: {}}, {1: {77: 1}}, {1: {None: 1}}, {1: []}, {True: moving[7][1]}):
                    self.not_so(is_moving, moving[:7] + (hiddens,))

    def test_pieces_that_are_not_whole(self):
        for word, home in (("part table", 0), ("put together", 1)):
            moving = moving_with(CASES[word], home, (("q", 2), ("q", 3)))
            laid = moving[6]
            for table in laid:
                torn = {**laid, table: {2: laid[table][2]}}
                self.not_so(is_moving, moving[:6] + (torn,) + moving[7:])
                self.not_so(is_moving, moving[:4] + ((("q", 2),),) + moving[5:6] + (torn,) + moving[7:])
        # A row that is split stands in the other table, or in both.
        moving = moving_with(CASES["split table"], 0, (("q", 2),))
        for laid in ({"u": {}, "v": {2: (8, 1)}}, {"u": {2: (8, 1)}, "v": {2: (8, 1)}}):
            self.not_so(is_moving, moving[:6] + (laid,) + moving[7:])

    def test_a_store_that_is_not_right(self):
        moving = moving_with(CASES["move keys"], 0, (("p", 3),))
        self.so(is_moving, moving)
        self.not_so(is_moving, moving[:5] + ({**moving[5], "l": {1: (4, None), 4: (5, 3)}},) + moving[6:])
        self.so(is_moving, moving[:5] + ({**moving[5], "l": {1: (5, None), 4: (5, 3)}},) + moving[6:])
        # What is hidden elsewhere does not fit.
        beside = stepped(begun(store_at(0), 2), ("t", 7))
        self.so(is_moving, beside)
        for hiddens in ({**HIDDENS[0], 1: {7: 2}}, {**HIDDENS[0], 1: {9: 1}}, {**HIDDENS[0], 1: {7: True}}, {**HIDDENS[0], 4: {}}, {1: {7: 4}, 2: {}}):
            self.not_so(is_moving, beside[:7] + (hiddens,))

    def test_anything(self):
        for thing in ANYTHING + [store_at(0), (None,) * 8, ((),) * 8, ({},) * 8]:
            self.not_so(is_moving, thing)
        case = CASES["call table"]
        moving = moving_with(case, 0, ())
        for thing in [list(moving), moving[:7], moving + ({},), moving[1:] + moving[:1], store_with(case, 0)]:
            self.not_so(is_moving, thing)
        for tree in [None, (), case.schema, (case.schema, ()), (case.schema, (case.change,)), [case.schema, ((0, case.change),)]]:
            self.not_so(is_moving, (tree,) + moving[1:])


class Amid(News):

    def raises(self, error, told, function, *arguments):
        before = repr(arguments)
        with self.assertRaises(error) as caught:
            function(*arguments)
        self.assertIs(type(caught.exception), error)
        self.assertEqual(vars(caught.exception), told)
        self.assertEqual(repr(arguments), before)

    def test_do(self):
        half = stepped(begun(store_at(0), 1), ("t", 7))
        copies = done(TREE, LIVE, COPIES, 2, (put("x", ("+", ("col", "x"), ("num", 1))), ("add", "t", 9, (5,))))[1]
        for version, transaction, moved, left, laid, entries in [
                (2, (put("x", ("+", ("col", "x"), ("num", 1))), ("add", "t", 9, (5,))), (("t", 7),), {8: (10,), 9: (5,)}, {7: (31, 4)}, {}),
                (1, (put("b", ("num", 3)),), (("t", 7),), {8: (9,)}, {7: (30, 3)}, {8: 3}),
                (4, (("take", "t", ("=", KEY, ("num", 7))),), (), {8: (9,)}, {}, {}),
                # What is taken out and put in again under its key is the same PIECE.
                (0, (("take", "t", ALWAYS), ("add", "t", 7, (1,))), (("t", 7),), {}, {7: (1, 4)}, {}),
                (0, (("take", "t", ALWAYS),), (), {}, {}, {}), (3, (), (("t", 7),), {8: (9,)}, {7: (30, 4)}, {})]:
            answers, told = self.new(do_amid, turned(half), version, transaction + (("ask", ("count", "t", ALWAYS)),))
            self.assertEqual(answers, [len(left) + len(laid)])
            self.assertEqual(told[:4], half[:4])
            self.assertEqual((told[4], told[5], told[6], told[7][1]), (moved, {"t": left}, {"t": laid}, entries))
            self.so(is_moving, told)
        self.assertEqual(copies_of(store_told(do_amid(half, 2, (put("x", ("+", ("col", "x"), ("num", 1))), ("add", "t", 9, (5,))))[1])), copies)

    def test_do_refused(self):
        half = stepped(begun(store_at(0), 1), ("t", 7))
        for version, transaction, index, reason in [
                (3, (("take", "t", ALWAYS),), 1, ("broken", ("ref", "n", 1, "of"))), (1, (("add", "t", 5, (1, 5)),), 0, ("fit",)),
                (0, (("ask", ("count", "t", ALWAYS)), ("add", "t", 7, (1,))), 1, ("there",)),
                (4, (("need", ("count", "t", ALWAYS), 3, None),), 0, ("need",))]:
            self.raises(Refused, {"index": index, "reason": reason}, do_amid, half, version, transaction)

    def test_grow(self):
        half = stepped(begun(store_at(1), 0), ("t", 8))
        for version, change, hidden in [(0, ("add column", "t", "z", ("int",), 6), {}), (1, ("drop column", "t", "b", 2), None),
                                        (3, ("call table", "n", "k"), {}), (4, ("add table", "m", ((), ALWAYS)), {})]:
            told = self.new(grow_amid, turned(half), version, change)
            tree, live, copies = grown(TREE, LIVE, COPIES, version, change)
            hiddens = half[7] if hidden is None else {**half[7], 5: hidden}
            self.assertEqual(told, (tree, live) + half[2:7] + (hiddens,))
            self.assertEqual(copies_of(store_told(told)), copies)
            self.so(is_moving, told)
        for version, change in [(0, ("drop table", "z")), (3, ("drop table", "t")), (1, ("add column", "t", "b", ("int",), 0))]:
            word, things = refusal(schema_at(TREE, version), change)
            self.raises(NotTaken, {"word": word, "things": things}, grow_amid, half, version, change)

    def test_take_away(self):
        half = stepped(begun(store_at(0), 1), ("t", 7))
        told = self.new(take_away_amid, turned(half), 3)
        self.assertEqual(told, (TREE, (0, 1, 2, 4)) + half[2:7] + ({1: {}, 2: {}},))
        self.so(is_moving, told)
        less = self.new(take_away_amid, take_away_amid(told, 4), 2)
        self.assertEqual(less, (TREE, (0, 1)) + half[2:7] + ({1: {}},))
        # No end comes ahead of the home; of the ends neither the home nor the goal goes.
        for version in (0, 1, 2):
            self.raises(NotEnd, {"version": version}, take_away_amid, half, version)
        for version in (0, 1):
            self.raises(IsHome, {"version": version}, take_away_amid, less, version)
            self.raises(IsHome, {"version": version}, take_away_amid, turned_about(less), version)
        self.raises(IsHome, {"version": 1}, take_away_amid, told, 1)
        self.raises(NotEnd, {"version": 0}, take_away_amid, told, 0)


class AtRandom(News):

    def test_at_random(self):
        """Whatever is done amid the moving, all copies are what they are without it, and no step changes one."""
        counts = {"do": 0, "refused": 0, "gone": 0, "step": 0, "end": 0, "turn": 0, "come": 0, "go": 0, "goal": 0}
        words = set()
        for seed in range(150):
            life = Life(seed)
            store = life.store(5)
            if len(store[1]) == 1:
                continue
            goal = life.one(neighbours(store[0], store[1], store[2]))
            copies = copies_of(store)
            moving = self.new(begun, store, goal)
            words.add(store[0][1][edge_between(store[0], store[2], goal)[0] - 1][1][0])
            for _ in range(12):
                moving, copies = self.one_more(life, moving, copies, counts)
                self.assertEqual(copies_of(store_told(moving)), copies)
                self.so(is_moving, moving)
            while pieces_left(moving) != ():
                moving = stepped(moving, life.one(pieces_left(moving)))
            self.assertEqual(self.new(ended, moving), store_of(moving[0], moving[1], moving[3], copies))
            counts["end"] += 1
        self.assertGreater(min(counts.values()), 15, counts)
        self.assertEqual(words, set(CHANGES))

    def one_more(self, life, moving, copies, counts):
        tree, live, home, goal, moved = moving[:5]
        version = life.one(live)
        word = life.one(["do", "do", "do", "step", "step", "step", "turn", "come", "go"])
        if word == "step" and pieces_left(moving) != ():
            counts["step"] += 1
            piece = life.one(pieces_left(moving))
            told = self.new(stepped, turned(moving), piece)
            self.assertEqual(told, moving_of(store_told(moving), goal, tuple(sorted(moved + (piece,)))))
            return told, copies
        if word == "turn":
            counts["turn"] += 1
            told = self.new(turned_about, turned(moving))
            self.assertEqual((told[2:4], sorted(told[4] + moved)), ((goal, home), sorted(set(told[4]) | set(moved))))
            self.assertEqual(told[4], pieces_left(moving))
            return told, copies
        if word == "come":
            change = life.taken(schema_at(tree, version)) if len(live) < 6 else None
            if change is None:
                return moving, copies
            counts["come"] += 1
            told = self.new(grow_amid, turned(moving), version, change)
            self.assertEqual(told[2:7], moving[2:7])
            return told, grown(tree, live, copies, version, change)[2]
        if word == "go":
            return self.gone(moving, copies, version, counts)
        return self.done(life, moving, copies, version, counts)

    def gone(self, moving, copies, version, counts):
        try:
            live, left = taken_away(moving[0], moving[1], copies, version)
        except NotEnd:
            with self.assertRaises(NotEnd):
                take_away_amid(moving, version)
            return moving, copies
        if version in moving[2:4]:
            counts["goal"] += 1
            with self.assertRaises(IsHome):
                take_away_amid(moving, version)
            return moving, copies
        counts["go"] += 1
        told = self.new(take_away_amid, turned(moving), version)
        self.assertEqual((told[1], told[2:7]), (live, moving[2:7]))
        return told, left

    def done(self, life, moving, copies, version, counts):
        tree, live, home, goal, moved = moving[:5]
        schema = schema_at(tree, version)
        transaction = life.transaction(schema) if life.chance(0.3) else life.taken_transaction(schema, copies[version])
        try:
            answers, after = done(tree, live, copies, version, transaction)
        except Refused as error:
            counts["refused"] += 1
            with self.assertRaises(Refused) as caught:
                do_amid(moving, version, transaction)
            self.assertEqual(vars(caught.exception), vars(error))
            return moving, copies
        counts["do"] += 1
        said, told = self.new(do_amid, turned(moving), version, transaction)
        self.assertEqual((said, told[:4]), (answers, moving[:4]))
        edge = max(home, goal)
        wide = goal if is_far_wide(tree, home, goal) else home
        side = "child" if wide == edge else "parent"
        there = pieces_in(schema_at(tree, tree[1][edge - 1][0]), tree[1][edge - 1][1], side, after[wide])
        self.assertEqual(told[4], tuple(piece for piece in moved if piece in there))
        counts["gone"] += told[4] != moved
        return told, after

    def test_copies(self):
        """A MOVING STORE that is exchanged for another one tells other COPIES."""
        others = 0
        for seed in range(40):
            life = Life(seed)
            store = life.store(3)
            if len(store[1]) == 1:
                continue
            moving = begun(store, life.one(neighbours(store[0], store[1], store[2])))
            for piece in life.some(pieces_left(moving), 0, 3):
                moving = stepped(moving, piece)
            for at in (5, 6, 7):
                for thing in spoiled(moving[at])[:60]:
                    told = moving[:at] + (thing,) + moving[at + 1:]
                    if is_moving(told):
                        self.assertTrue(are_copies(told[0], told[1], copies_of(store_told(told))))
                        self.assertEqual(view(store_told(told), told[2]), view_amid(told, told[2]))
                        others += told != moving
        self.assertGreater(others, 5)


if __name__ == "__main__":
    unittest.main()
