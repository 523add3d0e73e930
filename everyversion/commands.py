"""What a line tells a Desk: a LINE, a cut, or what it is to show."""

from everyversion.reader import read_change, read_statement
from everyversion.terms import Line, read_integer, read_name
from everyversion.trees import schema_at
from everyversion.words import lines_of

# The first word of a command that tells a version which is not LIVE.
NOT_LIVE = "not live"


def _statements_in(words):
    """Return the list of the tuples of words between which a ";" stands, [] if there are no words."""
    found = [()] if words != () else []
    for word in words:
        if word == ";":
            found.append(())
        else:
            found[-1] = found[-1] + (word,)
    return found


def _read_transaction(schema, line):
    """Return the TRANSACTION that all words left in a line tell."""
    statements = _statements_in(line.words[line.at:])
    return tuple([read_statement(schema, Line(line.line, words)) for words in statements])


def _read_at_version(kept, line, word):
    """Return the command of a word behind which a version stands."""
    version = read_integer(line)
    if version not in kept[1]:
        return (NOT_LIVE, version)
    if word == "do":
        return (word, version, _read_transaction(schema_at(kept[0], version), line))
    if word == "grow":
        return (word, version, read_change(line))
    line.want(not line.has_more())
    return (word, version)


def _read_other(line, word):
    """Return the command of a word behind which no version stands."""
    command = (word,)
    if word == "step":
        name = read_name(line)
        command = (word, (name, read_integer(line)))
    if word == "cut":
        many = read_integer(line)
        line.want(many >= 0)
        command = (word, many)
    line.want(not line.has_more())
    return command


def read_command(kept, text):
    """Return the command that a line tells, NOT_LIVE in the place of its word if its version is not LIVE."""
    lines = lines_of(text)
    line = Line(0, lines[0][1] if lines != [] else ())
    word = line.take()
    if word in ("do", "grow", "away", "begin", "show", "schema"):
        return _read_at_version(kept, line, word)
    line.want(word in ("step", "end", "cut", "state", "cells"))
    return _read_other(line, word)
