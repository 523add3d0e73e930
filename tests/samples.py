"""Values that several tests use."""

import copy
import unittest

from everyversion.errors import NoCommand, NoText, Refused, Wrong

ALWAYS = ("true",)
PAGES = ("col", "pages")
WHO = ("col", "who")

# A book may have a person and is in a room; a person may have a friend.
BOOK = (
    (("pages", ("below", 500)), ("room", ("ref", "room")), ("who", ("may", "person"))),
    ("not", ("=", PAGES, ("num", 13))),
)
PERSON = ((("age", ("int",)), ("friend", ("may", "person"))), ALWAYS)
ROOM = ((), ("<", ("key",), ("num", 100)))
SCHEMA = (
    (("book", BOOK), ("person", PERSON), ("room", ROOM)),
    (("apart", "book", "person"), ("apart", "person", "room"), ("same", "book", "room")),
)

WORDS = (
    "add and apart ask below by call change check column columns count drop end from int join key keys list may move "
    "need none not or over part plus put ref rest row rows same set split table tables take times to together total "
    "true turned via"
).split()

SORTS = [("int",), ("below", 1), ("below", 1000), ("ref", "a"), ("may", "abcdefghijkl")]
WAYS = [
    ("plus", 0), ("plus", -(10 ** 39)), ("plus", 10 ** 39), ("turned",), ("times", 1), ("times", 1000), ("over", 1),
    ("over", 1000), ("rest", 1), ("rest", 1000), ("list", (0,)), ("list", tuple(range(1000))), ("list", (-3, 5, -3)),
]
EXPRESSIONS = [
    ("num", 0), ("num", -(10 ** 39)), ("key",), ("col", "a"), ("col", "num"), ("via", "a", ("key",)),
    ("via", "a", ("via", "b", ("col", "c"))), ("+", ("key",), ("num", 1)), ("-", ("col", "x"), ("col", "x")),
    ("*", ("num", 2), ("+", ("key",), ("key",))), ("by", ("turned",), ("key",)),
    ("by", ("list", (1, 2)), ("by", ("over", 7), ("col", "a"))),
]
CONDITIONS = [
    ("true",), ("<", ("key",), ("num", 1)), ("=", ("col", "a"), ("via", "b", ("key",))), ("none", ("col", "a")),
    ("and", ("true",), ("none", ("key",))), ("or", ("true",), ("true",)), ("not", ("true",)),
    ("not", ("and", ("not", ("true",)), ("or", ("<", ("num", 1), ("num", 2)), ("true",)))),
]

# Values that have no form of the document, but for those that some tests leave out.
ANYTHING = [
    None, True, False, 0, 1, -1, 10 ** 39, "", "a", "int", "true", "key", " ", (), [], {}, ("int",), ["int"], {"a": 1},
    ("true",), ["true"], ("key",), (True,), ((), ()), [(), ()], ((), ("true",)), ("num", 1), (1, 2), ("a", "b"),
    {1: (2,)}, {(): []}, {None: None, True: False}, NoCommand(), Refused(1, ("need",)), ([], {}), (("a",), ("b",)),
    ("ask", "add"), ("num", [1]), ([1], 2), ({}, 2), ("count", [], {}), ("add", [], 1, ()), ({}, "a", "b", "c"),
]


def spoiled(thing):
    """Return versions of a value in which one part, however deep, is exchanged for another kind of value."""
    if isinstance(thing, bool) or thing is None:
        return []
    if isinstance(thing, int):
        return [True, False, str(thing), (thing,)]
    if isinstance(thing, str):
        return [None, 1, thing + "!", (thing,), ""]
    if isinstance(thing, dict):
        found = [list(thing.items()), None]
        for key in thing:
            rest = {other: thing[other] for other in thing if other != key}
            found.extend([{**rest, other: thing[key]} for other in spoiled(key) if other != key])
            found.extend([{**rest, key: other} for other in spoiled(thing[key])])
        return found
    if isinstance(thing, list):
        return [tuple(thing), thing + [None]] + [list(other) for other in spoiled(tuple(thing)) if isinstance(other, tuple)]
    found = [list(thing), thing + (None,), thing + ("a",), {}]
    if thing and isinstance(thing[0], str):
        # What begins with a word has just so many items: one is left out, or stands twice.
        found.extend([thing[:-1], thing + thing[-1:], thing[:1] + thing])
    for at, part in enumerate(thing):
        found.extend([thing[:at] + (other,) + thing[at + 1:] for other in spoiled(part)])
    return found


class Checks(unittest.TestCase):
    """A test that tells truths from 1 and 0, and sees whether arguments are as they were."""

    def told(self, function, *arguments):
        """Return what a call returns, having seen that it changed no argument, and tells the same again."""
        before = copy.deepcopy(arguments[:-1]), repr(arguments)
        result = function(*arguments)
        self.assertEqual(before, (arguments[:-1], repr(arguments)))
        self.assertEqual(repr(result), repr(function(*arguments)))
        return result

    def so(self, function, *arguments):
        self.assertIs(self.told(function, *arguments), True, (function.__name__, arguments))

    def not_so(self, function, *arguments):
        self.assertIs(self.told(function, *arguments), False, (function.__name__, arguments))


def containers(thing):
    """Return all lists and dicts in a value, itself among them."""
    found = [thing] if isinstance(thing, (list, dict)) else []
    for part in thing.values() if isinstance(thing, dict) else thing if isinstance(thing, (list, tuple)) else []:
        found.extend(containers(part))
    return found


def is_ordered(thing):
    """Whether the keys of all dicts in a value ascend."""
    if isinstance(thing, dict):
        return list(thing) == sorted(thing) and all(is_ordered(part) for part in thing.values())
    return all(is_ordered(part) for part in thing) if isinstance(thing, (list, tuple)) else True


def turned_about(thing):
    """Return an equal value, the keys of its dicts in another order."""
    if isinstance(thing, dict):
        return {key: turned_about(thing[key]) for key in sorted(thing, reverse=True)}
    return thing


class News(Checks):
    """A test of what returns lists or dicts."""

    def new(self, function, *arguments):
        """Return a copy of what a call returns, having seen that it is new, ordered, and the caller's to change."""
        before = copy.deepcopy(arguments)
        result = function(*arguments)
        self.assertEqual(before, arguments)
        self.assertTrue(is_ordered(result), result)
        whole = copy.deepcopy(result)
        found = containers(result)
        every = [id(part) for part in found + [part for argument in arguments for part in containers(argument)]]
        mine = [id(part) for part in found]
        self.assertEqual(len(set(mine)), len(mine))
        self.assertEqual(len([one for one in every if one in mine]), len(mine))
        for part in found:
            part.clear()
        self.assertEqual(before, arguments)
        self.assertEqual(function(*arguments), whole)
        return whole


class Reading(News):
    """A test of what raises NoText and Wrong."""

    def bad(self, line, function, *arguments):
        """See that a text has its first BAD line there."""
        with self.assertRaises(NoText, msg=arguments[-1]) as caught:
            function(*arguments)
        self.assertIs(type(caught.exception.line), int)
        self.assertEqual(caught.exception.line, line, arguments[-1])

    def wrong(self, place, function, *arguments):
        with self.assertRaises(Wrong, msg=arguments) as caught:
            function(*arguments)
        self.assertIs(type(caught.exception.place), int)
        self.assertEqual(caught.exception.place, place)
