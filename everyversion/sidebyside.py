"""COURSES on a DISK, with cuts, and side by side with them the plain MEANING."""

from everyversion.cells import cells_of
from everyversion.deeds import hindered, tried
from everyversion.databases import empty
from everyversion.logs import phases_of, torn
from everyversion.meanings import first_meaning, meaning_of, meant
from everyversion.mending import kept_on, mended, told_by
from everyversion.moving import begun, copied_kept, do_amid, ended, grow_amid, is_amid, stepped, take_away_amid
from everyversion.storedeeds import do, grow, take_away

# What a LINE is told that was torn and left the DISK as it was.
CUT = ("not", "cut", ())


def _do(kept, line):
    answers, later = do_amid(kept, line[1], line[2]) if is_amid(kept) else do(kept, line[1], line[2])
    return (("answers", answers), later)


def _grow(kept, line):
    later = grow_amid(kept, line[1], line[2]) if is_amid(kept) else grow(kept, line[1], line[2])
    return (("version", later[1][-1]), later)


def _away(kept, line):
    return (("done",), take_away_amid(kept, line[1]) if is_amid(kept) else take_away(kept, line[1]))


def _begin(kept, line):
    return (("done",), begun(kept, line[1]))


def _step(kept, line):
    return (("done",), stepped(kept, line[1]))


def _end(kept, line):
    return (("done",), ended(kept))


DEEDS = {"do": _do, "grow": _grow, "away": _away, "begin": _begin, "step": _step, "end": _end}


def kept_behind(kept, line):
    """Return the tuple (what a LINE that is no cut is told, what is kept behind it)."""
    told = hindered(kept[0], kept[1], is_amid(kept), line)
    later = None
    if told is None:
        deed = DEEDS[line[0]]
        told, later = tried(deed, kept, line)
    return (told, copied_kept(kept) if later is None else later)


def first_disk(schema):
    """Return the CLEAN DISK that keeps what all begins with."""
    return cells_of(((schema, ()), (0,), 0, empty(schema), {}))


def deed_on(disk, line):
    """Return the tuple (told, CELLS behind it, PHASES that lead there) of a LINE that is no cut on a CLEAN DISK."""
    told, kept = kept_behind(kept_on(disk), line)
    cells = cells_of(kept)
    return (told, cells, phases_of(disk, cells))


def _written_or_torn(disk, line, cut):
    """Return the tuple (told, DISK, whether there were WRITES) of a LINE that is no cut."""
    told, cells, phases = deed_on(disk, line)
    if cut is None or phases == ():
        return (told, cells, phases != ())
    index, lot = cut
    left = torn(disk, phases, index, [place for place in lot if place < len(phases[index])])
    return (told if told_by(disk, cells, left) == "new" else CUT, mended(left), True)


def disk_behind(disk, line, cut):
    """Return the tuple (told, DISK behind it) of a LINE that is no cut, and of a cut (index, lot) or None."""
    return _written_or_torn(disk, line, cut)[:2]


def _disk_steps(schema, course):
    """Return the list of tuples (told, DISK behind it) of all LINES."""
    disk = first_disk(schema)
    waiting = None
    found = []
    for line in course:
        if line[0] == "cut":
            waiting = line[1:]
            told = ("done",)
        else:
            told, disk, is_changed = _written_or_torn(disk, line, waiting)
            waiting = None if is_changed else waiting
        found.append((told, disk))
    return found


def run_disk(schema, course):
    """Return the tuple (list of what the LINES of a COURSE are told, DISK at the end)."""
    steps = _disk_steps(schema, course)
    return ([told for told, _ in steps], steps[-1][1] if steps != [] else first_disk(schema))


def happened_in(tolds):
    """Return the tuple of truths that tells which of a list of tolds are not that of a cut LINE."""
    return tuple([told != CUT for told in tolds])


def meaning_steps(schema, course, happened):
    """Return the list of tuples (told, MEANING behind it) of all LINES, of which some happened."""
    meaning = first_meaning(schema)
    found = []
    for line, is_so in zip(course, happened):
        told = ("done",) if is_so else CUT
        if is_so and line[0] != "cut":
            told, meaning = meant(meaning, line)
        found.append((told, meaning))
    return found


def run_meaning(schema, course, happened):
    """Return the tuple (list of what the LINES are told, MEANING at the end) of those that happened."""
    steps = meaning_steps(schema, course, happened)
    return ([told for told, _ in steps], steps[-1][1] if steps != [] else first_meaning(schema))


def first_apart(schema, course):
    """Return the index of the first LINE behind which DISK and MEANING tell other things, None if there is none."""
    steps = _disk_steps(schema, course)
    happened = happened_in([told for told, _ in steps])
    beside = meaning_steps(schema, course, happened)
    for index, (told, disk) in enumerate(steps):
        if (told, meaning_of(kept_on(disk))) != beside[index]:
            return index
    return None
