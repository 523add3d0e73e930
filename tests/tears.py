"""CELLS, and all DISKS that come of tearing a DEED between two, told once more from the document."""

import itertools

ONE = {("home",): 0, ("row", "t", 7): (1,), ("row", "t", 8): (2,), ("tree",): ((), ())}
OTHER = {("home",): 0, ("row", "t", 7): (5,), ("row", "u", 9): (3,), ("tree",): ((), ())}

PAIRS = [
    (ONE, OTHER), (OTHER, ONE), ({}, ONE), (ONE, {}), ({("a",): 1}, {("a",): None}), ({("a",): "x"}, {("b",): "x"}), ({}, {("a", 1): 0}),
    ({("a", 1): 1, ("a", 2): 2, ("b",): 3}, {("a", 1): 2, ("a", 2): 2, ("b",): 1, ("c",): 4}),
    # True and False are no integers.
    ({("a",): 1, ("b",): 0}, {("a",): True, ("b",): 0}), ({("a",): (1, 0)}, {("a",): (1, False)}),
]


def same(one, other):
    """Whether two values are the same, True and False being no integers."""
    return one == other and repr(sorted(one.items(), key=repr)) == repr(sorted(other.items(), key=repr))


def apply(disk, writes):
    made = dict(disk)
    for write in writes:
        if write[0] == "put":
            made[write[1]] = write[2]
        elif write[1] in made:
            del made[write[1]]
    return made


def subsets(things):
    things = list(things)
    return [list(some) for many in range(len(things) + 1) for some in itertools.combinations(things, many)]


def all_tears(disk, phases):
    """Return the list of all DISKS that PHASES leave when power fails."""
    found = []
    for phase in phases:
        found.extend(apply(disk, some) for some in subsets(phase))
        disk = apply(disk, phase)
    return found
