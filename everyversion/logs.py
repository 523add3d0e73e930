"""WRITES, the DEEDS made of them, with a log ahead, and what lies on a DISK when power fails amid one."""

from everyversion.sameness import is_same

MARK = ("mark",)


def is_of_log(address):
    """Whether an ADDRESS is that of a WRITE in the log."""
    return address[0] == "log" and len(address) == 2


def is_clean(disk):
    """Whether a DISK has no log and no mark."""
    return MARK not in disk and not any([is_of_log(address) for address in disk])


def written(disk, writes):
    """Return the dict that comes of some WRITES, in their order."""
    made = {address: disk[address] for address in disk}
    for write in writes:
        if write[0] == "put":
            made[write[1]] = write[2]
        else:
            made.pop(write[1], None)
    return {address: made[address] for address in sorted(made)}


def writes_between(one, other):
    """Return the tuple of the WRITES that make CELLS one become other."""
    writes = []
    for address in sorted(set(one) | set(other)):
        if address not in other:
            writes.append(("take", address))
        elif address not in one or not is_same(one[address], other[address]):
            writes.append(("put", address, other[address]))
    return tuple(writes)


def phases_of(one, other):
    """Return the PHASES of the DEED that leads from CELLS to others, () if these are the same."""
    writes = writes_between(one, other)
    if writes == ():
        return ()
    log = tuple([("put", ("log", index), write) for index, write in enumerate(writes)])
    erased = tuple([("take", write[1]) for write in log])
    return (log, (("put", MARK, len(writes)),), writes, (("take", MARK),), erased)


def writes_of(phases):
    """Return the list of all WRITES of some PHASES, in their order."""
    return [write for phase in phases for write in phase]


def torn(disk, phases, index, lot):
    """Return the DISK when power fails behind some WRITES of a PHASE, all PHASES ahead of it being done."""
    return written(disk, writes_of(phases[:index]) + [phases[index][place] for place in lot])


def torn_behind(disk, phases, many):
    """Return the DISK when power fails behind so many WRITES of a DEED, or behind all if there are no more."""
    writes = writes_of(phases)
    return written(disk, writes[:min(many, len(writes))])
