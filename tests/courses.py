"""COURSES told at random, always the same ones, in which much happens."""

from everyversion.changes import CHANGES
from everyversion.meanings import first_meaning, meant
from everyversion.moving import pieces_between
from everyversion.trees import ends_of, neighbours, schema_at
from lives import HIDING, Life

RARE = ["join tables", "put together", "split table", "part table", "drop table", "join columns"]
WORDS = ["do"] * 4 + ["grow", "begin", "begin", "away", "cut", "cut"] + ["step"] * 6 + ["end"] * 3


def left_in(meaning):
    """Return the PIECES that are not moved."""
    tree, _, copies, home, goal, moved = meaning
    return [] if goal is None else [piece for piece in pieces_between(tree, home, goal, copies) if piece not in moved]


def any_taken(life, schema):
    """Return a CHANGE that a SCHEMA takes, rather one that few take, None if none was found."""
    for word in life.random.sample(RARE, len(RARE)) if life.chance(0.4) else []:
        change = life.taken(schema, word)
        if change is not None:
            return change
    return life.taken(schema, life.one([*CHANGES, *HIDING]))


def line_at(life, meaning, word):
    """Return a LINE that may be done, None if there is none such."""
    tree, live, copies, home, goal, _ = meaning
    version = life.one(live) if life.chance(0.97) else life.one([-1, 7, 99])
    schema = schema_at(tree, version) if version in live else tree[0]
    if word == "do":
        if version in live and life.chance(0.8):
            return (word, version, life.taken_transaction(schema, copies[version]))
        return (word, version, life.transaction(schema) if life.chance(0.8) else life.one([(None,), ("ask",), (("take", "nowhere", ("true",)),)]))
    if word == "grow":
        change = any_taken(life, schema) if life.chance(0.85) else life.change(schema)
        return None if change is None or len(live) > 5 else (word, version, change)
    if word == "away":
        ends = [end for end in ends_of(tree, live) if end not in (home, goal)]
        return (word, life.one(ends) if ends and life.chance(0.7) else version) if len(live) > 2 else None
    if word == "begin":
        if goal is not None and life.chance(0.8):
            return None
        near = neighbours(tree, live, home)
        return (word, life.one(near) if near and life.chance(0.9) else version)
    if word == "cut":
        return (word, life.random.randint(0, 4), tuple(life.some(range(12), 0, 9)))
    if goal is None and life.chance(0.9):
        return None
    left = left_in(meaning)
    if word == "end":
        return (word,) if left == [] or life.chance(0.2) else None
    return (word, life.one(left) if left and life.chance(0.95) else ("t", life.random.randint(0, 3)))


def course_at(seed, many):
    """Return a tuple (Life, SCHEMA, COURSE)."""
    life = Life(seed)
    schema = life.schema()
    meaning = first_meaning(schema)
    found = []
    # With more than one version at once more can happen.
    words = ["do", "grow", "grow", "do"]
    while len(found) < many:
        line = line_at(life, meaning, words[len(found)] if len(found) < len(words) else life.one(WORDS))
        if line is None:
            line = ("cut", life.random.randint(0, 4), ()) if len(found) < len(words) else None
        if line is not None:
            found.append(line)
            if line[0] != "cut":
                meaning = meant(meaning, line)[1]
    return life, schema, tuple(found)
