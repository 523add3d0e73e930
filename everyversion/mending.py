"""DISKS that came of tearing a DEED: how they are mended, and what they tell."""

from everyversion.cells import cells_of, kept_by
from everyversion.logs import MARK, is_of_log, phases_of, torn, writes_of, written
from everyversion.sameness import is_same


def mending(disk):
    """Return the PHASES that mend a DISK, () if it is CLEAN."""
    log = sorted([address for address in disk if is_of_log(address)])
    erased = tuple([("take", address) for address in log])
    if MARK in disk:
        return (tuple([disk[address] for address in log]), (("take", MARK),), erased)
    return (erased,) if log != [] else ()


def mended(disk):
    """Return what comes of all WRITES that mend a DISK."""
    return written(disk, writes_of(mending(disk)))


def _is_done(disk, write):
    """Whether a dict has what a WRITE makes of it."""
    if write[0] == "take":
        return write[1] not in disk
    return write[1] in disk and is_same(write[2], disk[write[1]])


def _done_of(disk, phase):
    """Return the tuple of the indexes of the WRITES of a PHASE that a dict seems to have done."""
    return tuple([index for index, write in enumerate(phase) if _is_done(disk, write)])


def lies_between(one, other, thing):
    """Whether any value is a DISK that LIES BETWEEN two CELLS."""
    if not isinstance(thing, dict):
        return False
    phases = phases_of(one, other)
    if phases == ():
        return is_same(one, thing)
    # If it was torn in a PHASE, it was so behind just those WRITES of it that seem to be done.
    return any([is_same(torn(one, phases, index, _done_of(thing, phases[index])), thing) for index in range(5)])


def told_by(one, other, disk):
    """Return "new" if mending makes other CELLS of a DISK, otherwise "old"."""
    return "new" if phases_of(one, other) != () and is_same(other, mended(disk)) else "old"


def kept_on(disk):
    """Return the STORE or MOVING STORE that a DISK tells."""
    return kept_by(mended(disk))


def phases_to(disk, kept):
    """Return the PHASES of the DEED from a CLEAN DISK to the CELLS of a STORE or MOVING STORE."""
    return phases_of(disk, cells_of(kept))


def rows_written(phases):
    """Return how many ADDRESSES of rows the WRITES of the third PHASE of a DEED have."""
    if phases == ():
        return 0
    return len([write for write in phases[2] if write[1][0] in ("row", "laid")])
