"""[44] and [45]: PIECES, the PARTS that have the rows of some, and how these are led."""

import itertools
import unittest

from everyversion.changes import CHANGES
from everyversion.databases import is_right
from everyversion.fitting import carried
from everyversion.pieces import hidden_in, hidden_of_part, joined_part, led_part, part_of_pieces, piece_tables, pieces_in, stands_at
from everyversion.pieces import touched_tables, without_pieces
from everyversion.refusals import refusal
from everyversion.sides import agree, full, hidden, narrowed, wide_side
from everyversion.ways import tables_of
from lives import sides_of, taken_changes
from moves import CASES, SCHEMA, SIDES, other
from samples import ALWAYS, News, turned_about


def some_of(things):
    """Return all subsets of a tuple, as tuples in its order."""
    return [some for many in range(len(things) + 1) for some in itertools.combinations(things, many)]


class Pieces(News):

    def test_cases_are_right(self):
        self.assertEqual(set(CASES), set(CHANGES))
        for case in CASES.values():
            self.assertIsNone(refusal(case.schema, case.change))
            self.assertEqual(wide_side(case.schema, case.change), case.wide)
            self.assertTrue(all(is_right(case.schemas[side], case.databases[side]) for side in SIDES))
            self.assertTrue(agree(case.schema, case.change, case.databases["parent"], case.databases["child"]))
            self.assertEqual(hidden(case.schema, case.change, case.databases[case.wide]), case.hidden)

    def test_tables(self):
        tables = {
            "call table": (("p",), ("p",), ("z",)), "call column": (("p",), ("p",), ("p",)), "add column": (("p",), ("p",), ("p",)),
            "drop column": (("p",), ("p",), ("p",)), "add table": (("n",), (), ("n",)), "drop table": (("l",), ("l",), ()),
            "split column": (("p",), ("p",), ("p",)), "join columns": (("p",), ("p",), ("p",)), "change column": (("p",), ("p",), ("p",)),
            "move keys": (("l", "p"), ("l", "p"), ("l", "p")), "split table": (("q",), ("q",), ("u", "v")),
            "join tables": (("q",), ("u", "v"), ("q",)), "part table": (("q",), ("q",), ("q", "z")), "put together": (("q",), ("q", "z"), ("q",)),
        }
        for word, case in CASES.items():
            self.assertEqual(self.told(piece_tables, case.schema, case.change), tables[word][0])
            for side, touched in zip(SIDES, tables[word][1:]):
                self.assertEqual(self.told(touched_tables, case.schema, case.change, side), touched)

    def test_tables_in_other_orders(self):
        self.assertEqual(touched_tables(SCHEMA, ("part table", "q", ("d",), "a"), "child"), ("a", "q"))
        self.assertEqual(touched_tables(SCHEMA, ("split table", "q", ALWAYS, "z", "a"), "child"), ("a", "z"))
        self.assertEqual(touched_tables(SCHEMA, ("split table", "q", ALWAYS, "z", "q"), "child"), ("q", "z"))
        self.assertEqual(stands_at(SCHEMA, ("split table", "q", ALWAYS, "z", "a"), "child", ("q", 3)), (("a", 3), ("z", 3)))
        self.assertEqual(stands_at(SCHEMA, ("split table", "q", ALWAYS, "z", "q"), "child", ("q", 3)), (("q", 3), ("z", 3)))
        # Of keys that move without anything that leads to them the tables are one.
        self.assertEqual(piece_tables(SCHEMA, ("move keys", "q", 4)), ("q",))
        self.assertEqual(touched_tables(SCHEMA, ("move keys", "q", 4), "child"), ("q",))
        alone = ((("p", ((("m", ("may", "p")),), ALWAYS)),), ())
        self.assertEqual(piece_tables(alone, ("move keys", "p", 4)), ("p",))

    def test_stands_at(self):
        for case in CASES.values():
            for piece, places in case.places.items():
                for side in SIDES:
                    self.assertEqual(self.told(stands_at, case.schema, case.change, side, piece), places[side])
        moves = CASES["move keys"]
        # A PIECE of which no row is there stands nowhere else.
        self.assertEqual(stands_at(SCHEMA, moves.change, "child", ("p", -10)), (("p", 0),))
        self.assertEqual(stands_at(SCHEMA, moves.change, "child", ("l", -10)), (("l", -10),))
        self.assertEqual(stands_at(SCHEMA, ("move keys", "p", -3), "child", ("p", 1)), (("p", -2),))

    def test_pieces_in(self):
        for word, case in CASES.items():
            for side in SIDES:
                found = self.told(pieces_in, case.schema, case.change, side, turned_about(case.databases[side]))
                is_none = word in ("add table", "drop table") and side != case.wide
                self.assertEqual(found, () if is_none else case.pieces, (word, side))

    def test_parts(self):
        for case in CASES.values():
            for side in SIDES:
                database = case.databases[side]
                for pieces in some_of(case.pieces):
                    part = self.new(part_of_pieces, case.schema, case.change, side, turned_about(database), pieces)
                    left = self.new(without_pieces, case.schema, case.change, side, turned_about(database), pieces)
                    self.assertEqual((part, left), (case.of(side, pieces), case.rest(side, pieces)))
                    self.assertEqual(self.new(joined_part, turned_about(left), turned_about(part)), database)
                # A PIECE of which no row is there adds and takes nothing.
                gone = (case.pieces[0][0], 77)
                self.assertEqual(self.new(part_of_pieces, case.schema, case.change, side, database, (gone,)), case.of(side, ()))
                self.assertEqual(self.new(without_pieces, case.schema, case.change, side, database, (gone,)), database)

    def test_joined_part(self):
        self.assertEqual(self.new(joined_part, {"a": {3: (1,)}, "b": {2: ()}}, {"a": {1: (2,)}}), {"a": {1: (2,), 3: (1,)}, "b": {2: ()}})
        self.assertEqual(self.new(joined_part, {"a": {}, "b": {}}, {"a": {}, "b": {5: (7,), 4: (1,)}}), {"a": {}, "b": {4: (1,), 5: (7,)}})
        self.assertEqual(self.new(joined_part, {"a": {1: ()}}, {}), {"a": {1: ()}})

    def test_led(self):
        for case in CASES.values():
            for pieces in some_of(case.pieces):
                wide, narrow = case.of(case.wide, pieces), case.of(case.narrow, pieces)
                entries = case.entries(pieces)
                # What is NARROWED asks for nothing HIDDEN.
                self.assertEqual(self.new(led_part, case.schema, case.change, case.wide, turned_about(wide), {}), narrow)
                self.assertEqual(self.new(led_part, case.schema, case.change, case.narrow, turned_about(narrow), turned_about(entries)), wide)
                self.assertEqual(self.new(hidden_of_part, case.schema, case.change, turned_about(wide)), entries)
                self.assertEqual(self.new(hidden_in, case.schema, case.change, turned_about(case.hidden), pieces), entries)
                self.assertEqual(hidden_in(case.schema, case.change, case.hidden, pieces + ((case.pieces[0][0], 77),)), entries)

    def test_hidden_things_make_the_part(self):
        case = CASES["add column"]
        self.assertEqual(led_part(case.schema, case.change, "parent", {"p": {3: (30, 7, 5)}}, {}), {"p": {3: (30, 7, 2, 5)}})
        self.assertEqual(led_part(case.schema, case.change, "parent", {"p": {3: (30, 7, 5)}}, {3: 0}), {"p": {3: (30, 7, 0, 5)}})
        case = CASES["drop table"]
        self.assertEqual(led_part(case.schema, case.change, "child", {}, {4: (5, 3)}), {"l": {4: (5, 3)}})
        self.assertEqual(led_part(case.schema, case.change, "parent", {"l": {4: (5, 3)}}, {}), {})
        case = CASES["change column"]
        self.assertEqual(led_part(case.schema, case.change, "child", {"p": {5: (-1, 5, None)}}, {}), {"p": {5: (-1, 10, None)}})

    def test_at_random(self):
        """A DATABASE falls into the PARTS of some PIECES, those of all others, and other tables that are the same."""
        words, many = set(), 0
        for life, parent, change in taken_changes(500, CHANGES):
            words.add(change[0])
            wide, narrow = wide_side(parent, change), other(wide_side(parent, change))
            broad, slim = sides_of(parent, change)
            here = life.near(broad, life.database(broad))
            there = carried(parent, change, wide, here, {table: {} for table in tables_of(slim)})
            databases, beside = {wide: here, narrow: there}, hidden(parent, change, here)
            pieces = self.told(pieces_in, parent, change, wide, here)
            self.assertEqual(pieces_in(parent, change, narrow, there), () if change[0] in ("add table", "drop table") else pieces)
            self.assertLessEqual({table for table, _ in pieces}, set(piece_tables(parent, change)))
            some = tuple(life.some(pieces, 0, len(pieces)))
            rest = tuple(piece for piece in pieces if piece not in some)
            for side in SIDES:
                touched = touched_tables(parent, change, side)
                one, two = (part_of_pieces(parent, change, side, databases[side], part) for part in (some, rest))
                self.assertEqual((sorted(one), sorted(two)), (list(touched), list(touched)))
                self.assertEqual(joined_part(without_pieces(parent, change, side, databases[side], some), one), databases[side])
                self.assertEqual(joined_part(without_pieces(parent, change, side, databases[side], rest), two), databases[side])
                # All rows of PIECES stand where they can stand.
                places = [place for piece in some for place in stands_at(parent, change, side, piece)]
                self.assertTrue(all((table, key) in places for table in one for key in one[table]))
                entries = [hidden_in(parent, change, beside, part) for part in (some, rest)]
                self.assertEqual({**entries[0], **entries[1]}, beside)
                led = [led_part(parent, change, side, part, told) for part, told in zip((one, two), entries)]
                others = {table: rows for table, rows in databases[side].items() if table not in touched}
                self.assertEqual(joined_part(joined_part({**others, **led[0]}, led[1]), {}), databases[other(side)])
                if side == wide:
                    self.assertEqual([hidden_of_part(parent, change, part) for part in (one, two)], entries)
            self.assertEqual((narrowed(parent, change, here), full(parent, change, there, beside)), (there, here))
            many += len(some) > 0 and len(rest) > 0
        self.assertEqual(words, set(CHANGES))
        self.assertGreater(many, 60)


if __name__ == "__main__":
    unittest.main()
