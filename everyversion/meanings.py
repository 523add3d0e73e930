"""The plain MEANING of a COURSE: COPIES of all LIVE versions, a home, and which PIECES have moved to its goal."""

from everyversion.copies import done, grown, taken_away
from everyversion.databases import copied, empty
from everyversion.deeds import hindered, tried
from everyversion.errors import IsHome, NoPiece, NotMoved, NotNeighbour
from everyversion.moving import as_store, is_amid, pieces_between
from everyversion.store import copies_of
from everyversion.trees import neighbours


def first_meaning(schema):
    """Return the MEANING with which all begins."""
    return ((schema, ()), (0,), {0: empty(schema)}, 0, None, ())


def _copied(meaning):
    """Return an equal MEANING."""
    tree, live, copies, home, goal, moved = meaning
    return (tree, live, {version: copied(copies[version]) for version in live}, home, goal, moved)


def _pieces(meaning):
    """Return the ascending tuple of the PIECES of the home and its goal, () if it is not moving."""
    tree, _, copies, home, goal, _ = meaning
    return () if goal is None else pieces_between(tree, home, goal, copies)


def _left(meaning):
    """Return the ascending tuple of the PIECES that are not moved."""
    return tuple([piece for piece in _pieces(meaning) if piece not in meaning[5]])


def _with_copies(meaning, tree, live, copies):
    """Return the MEANING with others, of whose PIECES those are moved that were, and are there still."""
    made = (tree, live, copies) + meaning[3:5]
    pieces = _pieces(made + ((),))
    return made + (tuple([piece for piece in meaning[5] if piece in pieces]),)


def _do(meaning, line):
    answers, copies = done(meaning[0], meaning[1], meaning[2], line[1], line[2])
    return (("answers", answers), _with_copies(meaning, meaning[0], meaning[1], copies))


def _grow(meaning, line):
    tree, live, copies = grown(meaning[0], meaning[1], meaning[2], line[1], line[2])
    return (("version", live[-1]), _with_copies(meaning, tree, live, copies))


def _away(meaning, line):
    live, copies = taken_away(meaning[0], meaning[1], meaning[2], line[1])
    if line[1] in meaning[3:5]:
        raise IsHome(line[1])
    return (("done",), _with_copies(meaning, meaning[0], live, copies))


def _begin(meaning, line):
    if line[1] not in neighbours(meaning[0], meaning[1], meaning[3]):
        raise NotNeighbour(line[1])
    return (("done",), _copied(meaning[:4] + (line[1], ())))


def _step(meaning, line):
    if line[1] not in _left(meaning):
        raise NoPiece(line[1])
    return (("done",), _copied(meaning[:5] + (tuple(sorted(meaning[5] + (line[1],))),)))


def _end(meaning, line):
    left = _left(meaning)
    if left != ():
        raise NotMoved(left[0])
    return (("done",), _copied(meaning[:3] + (meaning[4], None, ())))


DEEDS = {"do": _do, "grow": _grow, "away": _away, "begin": _begin, "step": _step, "end": _end}


def meant(meaning, line):
    """Return the tuple (what a LINE that is no cut is told, MEANING behind it)."""
    told = hindered(meaning[0], meaning[1], meaning[4] is not None, line)
    later = None
    if told is None:
        deed = DEEDS[line[0]]
        told, later = tried(deed, meaning, line)
    return (told, _copied(meaning) if later is None else later)


def meaning_of(kept):
    """Return the MEANING that a STORE or MOVING STORE tells."""
    goal, moved = kept[3:5] if is_amid(kept) else (None, ())
    return (kept[0], kept[1], copies_of(as_store(kept)), kept[2], goal, moved)
