"""[59]: the Desk."""

import unittest

from everyversion.cells import cells_of
from everyversion.desk import Desk
from everyversion.errors import NoCommand, NoText, Wrong
from everyversion.logs import is_clean, phases_of
from everyversion.reader import read_schema
from everyversion.shower import show_answer, show_change, show_database, show_schema, show_transaction
from everyversion.sidebyside import first_disk, kept_behind
from everyversion.store import copies_of, store_of
from everyversion.moving import is_amid, pieces_left, store_told
from everyversion.trees import schema_at
from courses import course_at
from lives import Life
from samples import ANYTHING, News

TEXT = "table pets\ncolumn age int\ncolumn owner may users\ncheck < 0 age\ntable users"
ROWS = "do 0 add users 1 ; add users 2 ; add pets 7 3 1 ; add pets 8 12 none"
GROW = "grow 0 add column pets legs below 9 4"


def desk_with(*lines):
    desk = Desk(TEXT)
    for line in lines:
        desk.execute(line)
    return desk


class Desks(News):

    def answered(self, desk, line, answer):
        """See that a line is answered so, and that what is returned may be changed."""
        told = desk.execute(line)
        self.assertEqual(told, answer, line)
        self.assertTrue(all(type(word) is str for word in told))
        told.append("changed")
        self.assertTrue(is_clean(desk.disk()))

    def none(self, desk, line):
        beside = desk.twin()
        with self.assertRaises(NoCommand, msg=line):
            desk.execute(line)
        self.assertEqual(desk, beside)

    def test_begin(self):
        desk = Desk(TEXT)
        self.assertEqual(desk.disk(), first_disk(read_schema(TEXT)))
        schema = read_schema(TEXT)
        self.assertEqual(desk.kept(), ((schema, ()), (0,), 0, {"pets": {}, "users": {}}, {}))
        self.answered(desk, "state", ["home 0"])
        self.answered(desk, "cells", ["3"])
        self.answered(desk, "show 0", [])
        self.answered(desk, "schema 0", TEXT.split("\n"))
        self.assertEqual(Desk("  # none\n\n table  pets #x\n   column  age int\n column owner may   users\ncheck  < 0 age\n\ntable users\n"), desk)
        self.answered(Desk(""), "schema 0", [])
        self.answered(Desk(""), "do 0", [])
        self.answered(Desk("#"), "show 0", [])

    def test_texts(self):
        for thing in ANYTHING + [b"table t", ["table t"], Desk("")]:
            if not isinstance(thing, str):
                with self.assertRaises(Wrong) as caught:
                    Desk(thing)
                self.assertEqual(caught.exception.place, 0)
        for text, line in [("a", 0), ("table t\ncolumn", 1), ("table t\n\n# x\ntable t", 3), ("do 0", 0), ("table t\ncolumn a ref u", 1)]:
            with self.assertRaises(NoText) as caught:
                Desk(text)
            self.assertEqual(caught.exception.line, line)

    def test_wrong(self):
        desk = desk_with(ROWS, "cut 3")
        beside = desk.twin()
        for thing in ANYTHING + [b"do 0", ["do 0"], desk, "\n", "do 0\n", "\ndo 0", "do 0\nadd", "no\ncommand", "do 0 # \n"]:
            if not isinstance(thing, str) or "\n" in thing:
                with self.assertRaises(Wrong) as caught:
                    desk.execute(thing)
                self.assertEqual(caught.exception.place, 0)
        self.assertEqual(desk, beside)

    def test_no_commands(self):
        for desk in (desk_with(ROWS, GROW), desk_with(ROWS, GROW, "begin 1", "step pets 7"), desk_with(ROWS, "cut 2")):
            for line in ["", " ", "#", "# do 0", "   # state", "do", "Do 0", "DO 0", "does 0", "do x", "do x 0", "do 00", "do -0", "do +0", "do 0.0", "do none", "do 0x",
                         "do 0 ;", "do 0 ; add users 3", "do 0 add users 3 ;", "do 0 add users 3 ; ; add users 4", "do 0 add users 3;", "do 0 add users 3 ;add users 4",
                         "do 0 add", "do 0 add users", "do 0 add users 3 1", "do 0 add nowhere 3", "do 0 take pets", "do 0 ask", "do 0 ask count pets", "do 0 add pets 1 1",
                         "do 0 set pets true nowhere 1", "do 0 need rows pets true 1 1", "do 0 need count pets true 1", "do 0 ask count pets true ; bogus",
                         "do 0 take pets via age key", "do 0 add users 3 add users 4", "do 0 row users 3", "grow", "grow 0", "grow x", "grow 0 drop", "grow 0 drop table",
                         "grow 0 drop table pets x", "grow 0 from 0 drop table pets", "grow 0 add column pets legs below 0 4", "grow 0 call table pets table",
                         "grow 0 move keys pets x", "grow drop table pets", "away", "away x", "away 0 0", "away 0 x", "begin", "begin x", "begin 0 0", "begin none", "step",
                         "step pets", "step 7 pets", "step pets 7 8", "step pets x", "step pets none", "step Pets 7", "step table 7", "step 7 7", "step pets 07", "end 0",
                         "end x", "ends", "cut", "cut -1", "cut x", "cut 1 2", "cut 01", "cut none", "show", "show x", "show 0 0", "show 0 pets", "schema", "schema x",
                         "schema 0 0", "state 0", "state x", "cells 0", "cells x", "kept", "twin", "disk", "row pets 7 3 1", "table t", "answers", "0", "; do 0", ";"]:
                self.none(desk, line)

    def test_blanks_and_remarks(self):
        desk = desk_with(ROWS)
        self.answered(desk, "  do   0   ask  count pets   true  ;  ask count   users true # ; x", ["2", "2"])
        self.answered(desk, "do 0 # take pets true", [])
        self.answered(desk, "state# x", ["home 0"])
        self.answered(desk, " cells #", ["7"])
        self.answered(desk, "  grow 0   call  table pets   cats#", ["version 1"])

    def test_not_live(self):
        """A version that is not live is told so, whatever stands behind it."""
        for desk in (desk_with(ROWS, GROW), desk_with(ROWS, GROW, "begin 1")):
            beside = desk.twin()
            for word in ("do", "grow", "away", "begin", "show", "schema"):
                for version in ("2", "-1", "99", "1" + 40 * "0"):
                    for more in ("", " x", " 0", " ;", " add users", " drop table pets", " take pets true ; x", " # x"):
                        self.answered(desk, word + " " + version + more, ["refused NotLive"])
            self.assertEqual(desk, beside)
        # One that went away.
        desk = desk_with(ROWS, GROW, "away 1")
        for word in ("do", "grow", "away", "begin", "show", "schema"):
            self.answered(desk, word + " 1", ["refused NotLive"])

    def test_do(self):
        desk = desk_with(ROWS)
        self.answered(desk, "do 0", [])
        self.answered(desk, "do 0 ask rows pets true owner + age key ; ask rows pets = key 9 ; ask total pets true age ; ask rows users true",
                      ["7: 1 10 | 8: none 20", "", "15", "1: | 2:"])
        self.answered(desk, "do 0 set pets = key 7 age + age 1 ; need total pets true age 16 16 ; ask count pets < age 5", ["1"])
        self.answered(desk, "show 0", ["row pets 7 4 1", "row pets 8 12 none", "row users 1", "row users 2"])
        self.assertEqual(desk.kept()[3]["pets"], {7: (4, 1), 8: (12, None)})
        beside = desk.twin()
        for line, answer in [("add pets 7 1 none", "0 there"), ("ask count pets true ; add pets 7 1 none", "1 there"), ("set pets true age none ; add pets 7 1 1", None),
                             ("add pets 9 none 1", "0 fit"), ("take pets true ; need count pets true 1 none", "1 need"), ("take users = key 1", "1 broken"),
                             ("add pets 9 0 none", "1 broken"), ("add users 3 ; add pets 9 1 4", "2 broken")]:
            if answer is not None:
                self.answered(desk, "do 0 " + line, ["refused " + answer])
                self.assertEqual(desk, beside)

    def test_grow_and_away(self):
        desk = desk_with(ROWS)
        self.answered(desk, GROW, ["version 1"])
        self.answered(desk, "schema 1", ["table pets", "column age int", "column legs below 9", "column owner may users", "check < 0 age", "table users"])
        self.answered(desk, "show 1", ["row pets 7 3 4 1", "row pets 8 12 4 none", "row users 1", "row users 2"])
        self.answered(desk, "grow 1 part table pets cats legs owner", ["version 2"])
        for line, word in [("drop table cats", "notable"), ("drop column pets fur 0", "nocolumn"), ("call table pets users", "name"), ("add column pets x ref users 1", "sort"),
                           ("add column pets x int none", "value"), ("split table users < age 1 x y", "condition"), ("change column pets age below 5 plus 0 plus 0", "out"),
                           ("change column pets age int plus 0 list 1 end", "outback"), ("change column pets age int plus 1 plus 1", "ways"),
                           ("join tables pets users x", "columns"), ("put together pets users", "columns"), ("drop column pets age 1", "check"),
                           ("drop table users", "referred")]:
            self.answered(desk, "grow 0 " + line, ["refused " + word])
        self.answered(desk, "grow 2 split table users < key 1 x y", ["refused referred"])
        self.answered(desk, "grow 2 move keys cats 1", ["refused rule"])
        self.answered(desk, "grow 2 put together users cats", ["refused notsame"])
        twins = Desk("table a\ntable b")
        self.answered(twins, "grow 0 join tables a b c", ["refused checks"])
        twins = Desk("table a\ncheck and true true\ntable b\ncheck and true not true")
        self.answered(twins, "grow 0 join tables a b c", ["refused notapart"])
        self.answered(desk, "away 1", ["refused NotEnd"])
        self.answered(desk, "away 0", ["refused IsHome"])
        self.answered(desk, "away 2", ["done"])
        self.answered(desk, "away 1", ["done"])
        self.answered(desk, "away 0", ["refused NotEnd"])
        self.answered(desk, "grow 0 add table x column at ref pets check true", ["version 3"])
        self.answered(desk, "do 3 add x 1 7", [])
        self.answered(desk, "show 3", ["row pets 7 3 1", "row pets 8 12 none", "row users 1", "row users 2", "row x 1 7"])

    def test_moving(self):
        desk = desk_with(ROWS, GROW, "grow 1 call table pets cats")
        for line in ("step pets 7", "step x 1", "end"):
            self.answered(desk, line, ["refused Resting"])
        self.answered(desk, "begin 2", ["refused NotNeighbour"])
        self.answered(desk, "begin 0", ["refused NotNeighbour"])
        self.answered(desk, "begin 1", ["done"])
        self.answered(desk, "state", ["home 0", "goal 1", "moved 0 of 2"])
        for line in ("begin 1", "begin 0", "begin 2"):
            self.answered(desk, line, ["refused Moving"])
        self.answered(desk, "end", ["refused NotMoved"])
        self.answered(desk, "away 0", ["refused IsHome"])
        self.answered(desk, "away 1", ["refused NotEnd"])
        for line in ("step pets 9", "step cats 7", "step users 1"):
            self.answered(desk, line, ["refused NoPiece"])
        self.answered(desk, "step pets 8", ["done"])
        self.answered(desk, "step pets 8", ["refused NoPiece"])
        self.answered(desk, "state", ["home 0", "goal 1", "moved 1 of 2"])
        self.answered(desk, "do 2 add cats 9 1 1 none ; set cats true age + age 1", [])
        self.answered(desk, "state", ["home 0", "goal 1", "moved 1 of 3"])
        self.answered(desk, "do 0 take pets = key 8", [])
        self.answered(desk, "state", ["home 0", "goal 1", "moved 0 of 2"])
        self.answered(desk, "step pets 7", ["done"])
        self.answered(desk, "step pets 9", ["done"])
        self.answered(desk, "state", ["home 0", "goal 1", "moved 2 of 2"])
        self.answered(desk, "away 2", ["done"])
        self.answered(desk, "away 1", ["refused IsHome"])
        self.answered(desk, "end", ["done"])
        self.answered(desk, "state", ["home 1"])
        self.answered(desk, "end", ["refused Resting"])
        self.answered(desk, "show 1", ["row pets 7 4 4 1", "row pets 9 2 1 none", "row users 1", "row users 2"])
        self.answered(desk, "show 0", ["row pets 7 4 1", "row pets 9 2 none", "row users 1", "row users 2"])
        # A home without pieces is where it goes at once.
        desk = Desk(TEXT)
        for line, answer in [("grow 0 call table pets cats", ["version 1"]), ("begin 1", ["done"]), ("state", ["home 0", "goal 1", "moved 0 of 0"]), ("end", ["done"])]:
            self.answered(desk, line, answer)

    def test_cells(self):
        desk = Desk(TEXT)
        for line, many in [(ROWS, 7), (GROW, 8), ("do 1 set pets = key 7 legs 3", 9), ("begin 1", 10), ("step pets 7", 10), ("step pets 8", 11),
                           ("end", 7), ("do 0 take pets true", 5)]:
            desk.execute(line)
            self.answered(desk, "cells", [str(many)])
            self.assertEqual(len(desk.disk()), many)

    def test_cuts(self):
        """Behind each number of writes the next deed is old or new, and its answer tells which."""
        start = desk_with(ROWS, GROW, "do 1 set pets = key 7 legs 3")
        for lines in [(), ("begin 1",), ("begin 1", "step pets 7"), ("begin 1", "step pets 7", "step pets 8")]:
            for line in ["do 0 take pets = key 8 ; add users 5 ; ask count pets true", "do 1 set pets true legs 0", "grow 1 drop column pets age 3", "begin 1", "step pets 8",
                         "end", "away 1"]:
                desk = start.twin()
                for told in lines:
                    desk.execute(told)
                after = desk.twin()
                after.execute(line)
                many = len(phases_of(desk.disk(), after.disk())[0]) if after != desk else 0
                for done in list(range(3 * many + 4)) + [10 ** 40]:
                    here = desk.twin()
                    self.answered(here, f"cut {done}", ["done"])
                    if many:
                        self.answered(here, line, ["new" if done > many else "old"])
                        self.assertEqual(here, after if done > many else desk)
                    else:
                        self.assertEqual(here.execute(line), desk.twin().execute(line))
                        self.assertNotEqual(here, desk)
                        self.assertEqual(here.disk(), desk.disk())

    def test_cuts_wait(self):
        desk = desk_with("cut 0")
        self.answered(desk, "do 0 ask count pets true", ["0"])
        self.answered(desk, "do 0 add pets 1 0 none", ["refused 1 broken"])
        self.answered(desk, "step pets 1", ["refused Resting"])
        self.answered(desk, "show 0", [])
        self.none(desk, "nothing")
        self.answered(desk, "do 7", ["refused NotLive"])
        self.answered(desk, "do 0 add users 1", ["old"])
        self.answered(desk, "do 0 add users 1", [])
        # A later one goes ahead of one that waits.
        for line in ("cut 0", "cut 7", "cut 2"):
            self.answered(desk, line, ["done"])
        self.answered(desk, "do 0 add users 2", ["new"])
        self.answered(desk, "do 0 add users 3", [])
        self.answered(desk, "show 0", ["row users 1", "row users 2", "row users 3"])
        # A version that is cut is not there.
        self.answered(desk, "cut 1", ["done"])
        self.answered(desk, GROW, ["old"])
        self.answered(desk, "show 1", ["refused NotLive"])
        self.answered(desk, GROW, ["version 1"])

    def test_kept_and_disk(self):
        desk = desk_with(ROWS, GROW)
        schema = read_schema(TEXT)
        tree = (schema, ((0, ("add column", "pets", "legs", ("below", 9), 4)),))
        here = {"pets": {7: (3, 1), 8: (12, None)}, "users": {1: (), 2: ()}}
        there = {**here, "pets": {7: (3, 4, 1), 8: (12, 4, None)}}
        store = store_of(tree, (0, 1), 0, {0: here, 1: there})
        self.assertEqual((desk.kept(), desk.disk()), (store, cells_of(store)))
        # What is told is the caller's to change.
        self.new(desk.kept)
        self.new(desk.disk)
        self.new(desk_with(ROWS, GROW, "begin 1", "step pets 7").kept)
        self.assertEqual(self.new(desk.twin().kept), store)
        self.assertEqual(desk_with(ROWS, GROW, "begin 1", "step pets 8").kept()[2:5], (0, 1, (("pets", 8),)))

    def test_twins_and_equals(self):
        desk = desk_with(ROWS)
        twin = desk.twin()
        self.assertIsInstance(twin, Desk)
        self.assertTrue(twin == desk)
        self.assertFalse(twin != desk)
        twin.execute("do 0 add users 9")
        self.assertFalse(twin == desk)
        self.answered(desk, "do 0 ask count users true", ["2"])
        twin.execute("do 0 take users = key 9")
        self.assertTrue(twin == desk)
        # A cut that waits counts, and goes along.
        desk.execute("cut 0")
        self.assertFalse(twin == desk)
        third = desk.twin()
        self.assertTrue(third == desk)
        twin.execute("cut 1")
        self.assertFalse(twin == desk)
        twin.execute("cut 0")
        self.assertTrue(twin == desk)
        self.answered(third, "do 0 add users 9", ["old"])
        self.assertFalse(third == desk)
        self.answered(desk, "do 0 add users 9", ["old"])
        self.assertTrue(third == desk)
        for thing in ANYTHING + [desk.disk(), desk.kept(), TEXT, Desk]:
            self.assertIs(desk == thing, False)
            self.assertIs(desk != thing, True)
        self.assertEqual(Desk(""), Desk("#"))
        self.assertNotEqual(Desk("table t"), Desk("table u"))


class AtRandom(News):

    def line_told(self, line, kept):
        """Return the words of a LINE."""
        if line[0] in ("do", "grow") and line[1] not in kept[1]:
            return f"{line[0]} {line[1]} anything"
        if line[0] == "do":
            return " ".join(["do", str(line[1])] + show_transaction(line[2]).replace("\n", " ; ").split())
        if line[0] == "grow":
            return f"grow {line[1]} {show_change(line[2])}"
        return " ".join([line[0]] + [str(word) for part in line[1:] for word in (part if isinstance(part, tuple) else [part])])

    def words_told(self, told):
        if told[0] == "answers":
            return [show_answer(answer) for answer in told[1]]
        if told[0] == "version":
            return [f"version {told[1]}"]
        if told == ("done",):
            return ["done"]
        word, things = told[1:]
        if word == "refused":
            return [f"refused {things[0]} {things[1][0]}"]
        if word == "taken":
            return ["refused " + "".join(things[0].split())]
        return ["refused " + {"version": "NotLive", "end": "NotEnd", "home": "IsHome", "moving": "Moving", "resting": "Resting", "neighbour": "NotNeighbour",
                              "piece": "NoPiece", "moved": "NotMoved"}[word]]

    def test_at_random(self):
        """What a Desk answers and keeps is what its LINES are told and keep."""
        cut, moved = 0, 0
        for seed in range(60):
            life, schema, course = course_at(seed, 25)
            desk = Desk(show_schema(schema))
            kept = desk.kept()
            for line in course:
                if line[0] == "cut":
                    continue
                told, behind = kept_behind(kept, line)
                if told == ("not", "transaction", ()):
                    continue
                many = life.one([None, None, None, 0, 1, 2, 3, 5, 8, 30])
                words = self.line_told(line, kept)
                if many is None or behind == kept:
                    self.assertEqual(desk.execute(words), self.words_told(told), words)
                    kept = behind
                else:
                    desk.execute(f"cut {many}")
                    is_new = many > len(phases_of(cells_of(kept), cells_of(behind))[0])
                    self.assertEqual(desk.execute(words), ["new" if is_new else "old"])
                    kept = behind if is_new else kept
                    cut += 1
                self.assertEqual((desk.kept(), desk.disk()), (kept, cells_of(kept)))
                self.so_shown(desk, kept)
                moved += is_amid(kept) and len(kept[4]) > 0
            self.assertEqual(desk.twin(), desk)
        self.assertGreater(min(cut, moved), 40)

    def so_shown(self, desk, kept):
        store = store_told(kept) if is_amid(kept) else kept
        for version, database in copies_of(store).items():
            here = schema_at(kept[0], version)
            self.assertEqual("\n".join(desk.execute(f"show {version}")), show_database(here, database))
            self.assertEqual("\n".join(desk.execute(f"schema {version}")), show_schema(here))
        goal = [f"goal {kept[3]}", f"moved {len(kept[4])} of {len(kept[4] + pieces_left(kept))}"] if is_amid(kept) else []
        self.assertEqual(desk.execute("state"), [f"home {kept[2]}"] + goal)

    def test_lines_spoiled(self):
        """Any string is a command, none, or Wrong."""
        words = (TEXT.replace("\n", " ") + " " + ROWS + " " + GROW + " begin 1 step pets 7 end cut 3 show 0 schema state cells ; - 9 x").split()
        some = 0
        for seed in range(1500):
            life = Life(seed)
            desk = desk_with(ROWS)
            line = " ".join(life.one(words) for _ in range(life.random.randint(1, 4)))
            beside = desk.twin()
            try:
                self.assertIsInstance(desk.execute(line), list)
                some += 1
            except NoCommand:
                self.assertEqual(desk, beside)
        self.assertGreater(some, 20)


if __name__ == "__main__":
    unittest.main()
