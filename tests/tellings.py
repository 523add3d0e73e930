"""What LINES are told as things stand, by the TREE and COPIES of versions.py."""

from everyversion.moving import moving_of
from samples import ALWAYS
from versions import COPIES, LIVE, TREE, put, store_at

KEY = ("key",)
BAD = ("add", "t", 7)
TAKE_ALL = (("take", "t", ALWAYS),)
GROW = ("add column", "t", "z", ("int",), 6)
P7, P8 = ("t", 7), ("t", 8)


def meaning_at(home, goal=None, moved=(), live=LIVE):
    return (TREE, live, {version: COPIES[version] for version in live}, home, goal, moved)


def kept_at(home, goal=None, moved=()):
    return store_at(home) if goal is None else moving_of(store_at(home), goal, moved)


# (home, goal, moved), a LINE that is not done, and what it is told: the first that is so.
REFUSALS = [
    # No version, whatever else is wrong.
    ((0, None, ()), ("do", 5, (BAD,)), ("not", "version", (5,))), ((0, None, ()), ("do", -1, ()), ("not", "version", (-1,))),
    ((0, None, ()), ("grow", 9, ("drop table", "t")), ("not", "version", (9,))), ((0, None, ()), ("away", 5), ("not", "version", (5,))),
    ((0, None, ()), ("begin", 5), ("not", "version", (5,))), ((0, 1, ()), ("begin", 10 ** 30), ("not", "version", (10 ** 30,))),
    # No transaction of this SCHEMA; those of the others may be such.
    ((0, None, ()), ("do", 0, (BAD,)), ("not", "transaction", ())), ((0, None, ()), ("do", 0, (None,)), ("not", "transaction", ())),
    ((0, None, ()), ("do", 0, (put("b", ("num", 0)),)), ("not", "transaction", ())),
    ((0, 1, (P7,)), ("do", 2, (("add", "t", 7, (1,)), put("a", ("num", 0)))), ("not", "transaction", ())),
    ((0, None, ()), ("do", 1, (("take", "n", ALWAYS),)), ("not", "transaction", ())),
    # Refused.
    ((0, None, ()), ("do", 0, (("ask", ("count", "t", ALWAYS)), ("add", "t", 7, (1,)))), ("not", "refused", (1, ("there",)))),
    ((2, 0, (P8,)), ("do", 1, (put("b", ("num", 5)),)), ("not", "refused", (0, ("fit",)))),
    ((3, None, ()), ("do", 3, TAKE_ALL), ("not", "refused", (1, ("broken", ("ref", "n", 1, "of"))))),
    ((1, None, ()), ("do", 4, (("need", ("count", "t", ALWAYS), 3, None),)), ("not", "refused", (0, ("need",)))),
    # Not taken.
    ((0, None, ()), ("grow", 0, ("drop table", "z")), ("not", "taken", ("no table", ("z",)))),
    ((0, 1, (P7,)), ("grow", 3, ("drop table", "t")), ("not", "taken", ("referred", ("n", "of")))),
    ((0, None, ()), ("grow", 1, ("add column", "t", "b", ("int",), 0)), ("not", "taken", ("name", ("b",)))),
    # No end, then the home or the goal.
    ((0, None, ()), ("away", 0), ("not", "end", (0,))), ((0, None, ()), ("away", 1), ("not", "end", (1,))), ((3, 1, ()), ("away", 1), ("not", "end", (1,))),
    ((3, None, ()), ("away", 3), ("not", "home", (3,))), ((4, 2, ()), ("away", 4), ("not", "home", (4,))), ((2, 4, (P8,)), ("away", 4), ("not", "home", (4,))),
    ((1, 3, (("n", 2),)), ("away", 3), ("not", "home", (3,))),
    # Moving already, then no neighbour; itself is none.
    ((0, 1, ()), ("begin", 1), ("not", "moving", ())), ((0, 1, (P7,)), ("begin", 2), ("not", "moving", ())), ((0, 1, (P7,)), ("begin", 4), ("not", "moving", ())),
    ((0, None, ()), ("begin", 3), ("not", "neighbour", (3,))), ((0, None, ()), ("begin", 0), ("not", "neighbour", (0,))),
    ((4, None, ()), ("begin", 0), ("not", "neighbour", (0,))),
    # Not moving, then no piece, or one that is moved; or some that are not.
    ((0, None, ()), ("step", P7), ("not", "resting", ())), ((0, None, ()), ("step", ("x", 1)), ("not", "resting", ())), ((1, None, ()), ("end",), ("not", "resting", ())),
    ((0, 1, (P7,)), ("step", P7), ("not", "piece", (P7,))), ((0, 1, ()), ("step", ("t", 9)), ("not", "piece", (("t", 9),))),
    ((0, 1, ()), ("step", ("u", 7)), ("not", "piece", (("u", 7),))), ((1, 3, ()), ("step", P7), ("not", "piece", (P7,))),
    ((0, 1, ()), ("end",), ("not", "moved", (P7,))), ((0, 1, (P7,)), ("end",), ("not", "moved", (P8,))), ((2, 4, (P8,)), ("end",), ("not", "moved", (P7,))),
    ((1, 3, (("n", 1), ("n", 3))), ("end",), ("not", "moved", (("n", 2),))),
]

# The same of one version alone.
ALONE = [("do", 1, ()), ("away", 0), ("begin", 0), ("begin", 1), ("step", P7), ("end",)]
ALONE_TOLD = [("not", "version", (1,)), ("not", "end", (0,)), ("not", "neighbour", (0,)), ("not", "version", (1,)), ("not", "resting", ()), ("not", "resting", ())]
