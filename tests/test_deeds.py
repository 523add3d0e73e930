"""[54]: LINES and COURSES."""

import unittest

from everyversion.changes import CHANGES
from everyversion.deeds import is_course, is_line
from courses import course_at
from moves import CASES
from samples import ANYTHING, Checks, spoiled

LINES = [
    ("do", 0, ()), ("do", -3, (("add", "t", 7, (30,)),)), ("do", 10 ** 39, (None,)), ("do", 1, ([], {}, "no statement")),
    ("grow", 0, ("drop table", "t")), ("grow", 99, ("add column", "t", "b", ("below", 5), 2)), ("away", 0), ("away", -1), ("begin", 4),
    ("begin", 10 ** 30), ("step", ("t", 7)), ("step", ("nowhere", -(10 ** 30))), ("end",), ("cut", 0, ()), ("cut", 4, (0, 1, 5)), ("cut", 2, (10 ** 30,)),
]
NO_LINES = [
    ("do", 0), ("do", 0, []), ("do", 0, None), ("do", True, ()), ("do", None, ()), ("do", "0", ()), ("do", 0, (), ()), ("do", 0, "add"), ["do", 0, ()],
    ("grow", 0), ("grow", 0, None), ("grow", 0, ("drop table",)), ("grow", 0, ("drop table", "table")), ("grow", False, ("drop table", "t")),
    ("grow", 0, ["drop table", "t"]), ("grow", 0, ("add column", "t", "b", ("below", 0), 2)), ("away",), ("away", True), ("away", None), ("away", 0, 0),
    ("begin",), ("begin", "1"), ("begin", False), ("begin", (1,)), ("step",), ("step", ("t",)), ("step", ("t", "7")), ("step", ("t", True)),
    ("step", ("T", 7)), ("step", ("table", 7)), ("step", ["t", 7]), ("step", "t", 7), ("step", ("t", 7, 8)), ("step", None), ("step", ("t", None)),
    ("end", 0), ("end", None), ("cut",), ("cut", 0), ("cut", 5, ()), ("cut", -1, ()), ("cut", True, ()), ("cut", None, ()), ("cut", 0, None), ("cut", 0, []),
    ("cut", 0, (-1,)), ("cut", 0, (1, 0)), ("cut", 0, (1, 1)), ("cut", 0, (False,)), ("cut", 0, (0, True)), ("cut", 0, ("0",)), ("cut", 0, (0, None)),
    ("cut", "0", ()), ("done",), ("answers", ()), ("Do", 0, ()), (0, "do", ()), (("do",), 0, ()), (["do"], 0, ()), ({}, 0, ()), (None,), "do", "end",
]


class Lines(Checks):

    def test_lines(self):
        for line in LINES + [("grow", 3, case.change) for case in CASES.values()]:
            self.so(is_line, line)
        self.assertEqual({case.change[0] for case in CASES.values()}, set(CHANGES))

    def test_no_lines(self):
        for thing in NO_LINES + ANYTHING:
            self.not_so(is_line, thing)
        for line in LINES[:3] + LINES[4:]:
            for thing in spoiled(line):
                # Any tuple is a transaction, and any NAME one of a table.
                if isinstance(thing, tuple) and len(thing) == 3 and thing[:2] == line[:2] and line[0] == "do":
                    self.assertIs(is_line(thing), isinstance(thing[2], tuple) and type(thing[1]) is int)
                elif thing != line:
                    self.not_so(is_line, thing)

    def test_courses(self):
        self.so(is_course, ())
        self.so(is_course, tuple(LINES))
        self.so(is_course, (("end",),))
        for line in LINES:
            self.so(is_course, (line, line))
        for thing in NO_LINES:
            self.not_so(is_course, (thing,))
            self.not_so(is_course, tuple(LINES) + (thing,))
            self.not_so(is_course, (thing,) + tuple(LINES))
        for thing in [list(LINES), [("end",)], ("end",), ("do", 0, ()), {("end",): 1}, ((("end",),),), None, "end"]:
            self.not_so(is_course, thing)
        for thing in ANYTHING:
            self.assertIs(is_course(thing), thing == () and isinstance(thing, tuple))
        for seed in range(30):
            self.so(is_course, course_at(seed, 12)[2])
        self.not_so(is_line, tuple(LINES))


if __name__ == "__main__":
    unittest.main()
