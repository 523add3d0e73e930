"""LINES: what is done to all that is kept, told as values; and what one is told that can't be done."""

from everyversion.changes import is_change
from everyversion.errors import IsHome, NoPiece, NotEnd, NotMoved, NotNeighbour, NotTaken, Refused
from everyversion.forms import ascends, is_integer, is_transaction, is_tuple_of
from everyversion.pieces import is_piece
from everyversion.trees import schema_at


# What stands behind the first item of each LINE.
LINES = {
    "do": ("version", "transaction"),
    "grow": ("version", "change"),
    "away": ("version",),
    "begin": ("version",),
    "step": ("piece",),
    "end": (),
    "cut": ("phase", "lot"),
}


def _is_lot(thing):
    """Whether any value is an ascending tuple of integers from 0 on."""
    return isinstance(thing, tuple) and all([is_integer(index) and index >= 0 for index in thing]) and ascends(thing)


def _is_kind(kind, thing):
    """Whether any value may stand in a LINE as a word of LINES says."""
    if kind == "version":
        return is_integer(thing)
    if kind == "transaction":
        return isinstance(thing, tuple)
    if kind == "change":
        return is_change(thing)
    if kind == "piece":
        return is_piece(thing)
    if kind == "phase":
        return is_integer(thing) and 0 <= thing <= 4
    return _is_lot(thing)


def is_line(thing):
    """Whether any value is a LINE."""
    if not isinstance(thing, tuple) or len(thing) == 0 or not isinstance(thing[0], str) or thing[0] not in LINES:
        return False
    kinds = LINES[thing[0]]
    return is_tuple_of(thing, len(kinds) + 1) and all([_is_kind(kind, part) for kind, part in zip(kinds, thing[1:])])


def is_course(thing):
    """Whether any value is a COURSE."""
    return isinstance(thing, tuple) and all([is_line(line) for line in thing])


def hindered(tree, live, is_moving, line):
    """Return what a LINE is told that can't be tried as things stand, None if it can."""
    word = line[0]
    if word in ("do", "grow", "away", "begin") and line[1] not in live:
        return ("not", "version", (line[1],))
    if word == "do" and not is_transaction(schema_at(tree, line[1]), line[2]):
        return ("not", "transaction", ())
    if word == "begin" and is_moving:
        return ("not", "moving", ())
    if word in ("step", "end") and not is_moving:
        return ("not", "resting", ())
    return None


def tried(deed, before, line):
    """Return the tuple (told, what is behind it) of a function of both, (told, None) if it raises an error."""
    try:
        return deed(before, line)
    except Refused as refused:
        return (("not", "refused", (refused.index, refused.reason)), None)
    except NotTaken as not_taken:
        return (("not", "taken", (not_taken.word, not_taken.things)), None)
    except NotEnd as not_end:
        return (("not", "end", (not_end.version,)), None)
    except IsHome as is_home:
        return (("not", "home", (is_home.version,)), None)
    except NotNeighbour as not_neighbour:
        return (("not", "neighbour", (not_neighbour.version,)), None)
    except NoPiece as no_piece:
        return (("not", "piece", (no_piece.piece,)), None)
    except NotMoved as not_moved:
        return (("not", "moved", (not_moved.piece,)), None)
