"""A CHANGE of each kind, with DATABASES of both sides that AGREE, and where the rows of each PIECE stand there."""

from everyversion.changes import child_by
from samples import ALWAYS

INT = ("int",)
# l leads to p, p to itself; nothing leads to q.
LEADS = ((("of", ("ref", "p")), ("on", ("may", "p"))), ALWAYS)
PLAIN = ((("a", INT), ("b", ("below", 12)), ("m", ("may", "p"))), ALWAYS)
QUIET = ((("c", INT), ("d", INT)), ALWAYS)
SCHEMA = ((("l", LEADS), ("p", PLAIN), ("q", QUIET)), ())
L_ROWS = {1: (3, None), 4: (5, 3)}
P_ROWS = {3: (30, 7, 5), 5: (-1, 11, None)}
Q_ROWS = {2: (8, 1), 3: (9, 2), 6: (1, 4)}
ROWS = {"l": L_ROWS, "p": P_ROWS, "q": Q_ROWS}

SPLIT = ("split table", "q", ("<", ("col", "c"), ("num", 9)), "u", "v")
SPLIT_ROWS = {"l": L_ROWS, "p": P_ROWS, "u": {2: (8, 1), 6: (1, 4)}, "v": {3: (9, 2)}}
PART = ("part table", "q", ("d",), "z")
PARTED_ROWS = {"l": L_ROWS, "p": P_ROWS, "q": {2: (8,), 3: (9,), 6: (1,)}, "z": {2: (1,), 3: (2,), 6: (4,)}}


class Case:
    """A CHANGE, told from both sides."""

    def __init__(self, schema, change, parent, child, wide, hidden, places):
        self.schema = schema
        self.change = change
        self.schemas = {"parent": schema, "child": child_by(schema, change)}
        self.databases = {"parent": parent, "child": child}
        self.wide = wide
        self.narrow = "parent" if wide == "child" else "child"
        self.hidden = hidden
        # From each PIECE to the tuples (table, key) on both sides.
        self.places = {piece: {"parent": told[0], "child": told[1]} for piece, told in places.items()}
        self.pieces = tuple(sorted(places))

    def of(self, side, pieces):
        """Return the dict from tables to the rows of some PIECES on a side."""
        database = self.databases[side]
        found = {table: {} for told in self.places.values() for table, _ in told[side]}
        for piece in pieces:
            for table, key in self.places[piece][side]:
                if key in database[table]:
                    found[table][key] = database[table][key]
        return found

    def rest(self, side, pieces):
        """Return the dict from all tables of a side to the rows of none of some PIECES."""
        gone = [place for piece in pieces for place in self.places[piece][side]]
        return {table: {key: row for key, row in rows.items() if (table, key) not in gone}
                for table, rows in self.databases[side].items()}

    def entries(self, pieces):
        """Return what is HIDDEN of some PIECES."""
        return {key: told for key, told in self.hidden.items() if key in [key for _, key in pieces]}


def alike(tables, *keys):
    """Return the places of PIECES of the first table whose keys are the same wherever they stand."""
    parent, child = tables
    table = (parent + child)[0]
    return {(table, key): (tuple((one, key) for one in parent), tuple((one, key) for one in child)) for key in keys}


def in_p(change, rows, wide="child", hidden=None):
    """Return the Case of a CHANGE that leaves the rows of p where they are."""
    return Case(SCHEMA, change, ROWS, {**ROWS, "p": rows}, wide, hidden or {}, alike((("p",), ("p",)), 3, 5))


NOTES = ((("at", ("ref", "p")),), ALWAYS)
MOVED = {"l": {1: (13, None), 4: (15, 13)}, "p": {13: (30, 7, 15), 15: (-1, 11, None)}, "q": Q_ROWS}
MOVED_PLACES = {**alike((("l",), ("l",)), 1, 4), ("p", 3): ((("p", 3),), (("p", 13),)), ("p", 5): ((("p", 5),), (("p", 15),))}
JOINED_PLACES = {("q", key): ((("u", key), ("v", key)), (("q", key),)) for key in Q_ROWS}

CASES = {case.change[0]: case for case in [
    Case(SCHEMA, ("call table", "p", "z"), ROWS, {"l": L_ROWS, "q": Q_ROWS, "z": P_ROWS}, "child", {}, alike((("p",), ("z",)), 3, 5)),
    in_p(("call column", "p", "b", "x"), {3: (30, 5, 7), 5: (-1, None, 11)}),
    in_p(("add column", "p", "k", ("below", 5), 2), {3: (30, 7, 4, 5), 5: (-1, 11, 2, None)}, "child", {3: 4}),
    in_p(("drop column", "p", "b", 11), {3: (30, 5), 5: (-1, None)}, "parent", {3: 7}),
    Case(SCHEMA, ("add table", "n", NOTES), ROWS, {**ROWS, "n": {1: (3,), 9: (5,)}}, "child", {1: (3,), 9: (5,)}, alike(((), ("n",)), 1, 9)),
    Case(SCHEMA, ("drop table", "l"), ROWS, {"p": P_ROWS, "q": Q_ROWS}, "parent", L_ROWS, alike((("l",), ()), 1, 4)),
    in_p(("split column", "p", "b", 4, "x", "y"), {3: (30, 5, 1, 3), 5: (-1, None, 2, 3)}),
    in_p(("join columns", "p", "a", "b", 12, "c"), {3: (367, 5), 5: (-1, None)}),
    in_p(("change column", "p", "b", ("below", 6), ("over", 2), ("times", 2)), {3: (30, 3, 5), 5: (-1, 5, None)}, "parent", {3: 7, 5: 11}),
    Case(SCHEMA, ("move keys", "p", 10), ROWS, MOVED, "child", {}, MOVED_PLACES),
    Case(SCHEMA, SPLIT, ROWS, SPLIT_ROWS, "child", {}, alike((("q",), ("u", "v")), 2, 3, 6)),
    Case(child_by(SCHEMA, SPLIT), ("join tables", "u", "v", "q"), SPLIT_ROWS, ROWS, "child", {}, JOINED_PLACES),
    Case(SCHEMA, PART, ROWS, PARTED_ROWS, "child", {}, alike((("q",), ("q", "z")), 2, 3, 6)),
    Case(child_by(SCHEMA, PART), ("put together", "q", "z"), PARTED_ROWS, ROWS, "child", {}, alike((("q", "z"), ("q",)), 2, 3, 6)),
]}
SIDES = ("parent", "child")


def other(side):
    return "child" if side == "parent" else "parent"
