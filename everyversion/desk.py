"""A Desk: lines of commands, done to a DISK that is mended whenever it is torn."""

from everyversion.cells import kept_by
from everyversion.commands import NOT_LIVE, read_command
from everyversion.deeds import LINES
from everyversion.errors import NoCommand, NoText, Wrong
from everyversion.logs import torn_behind
from everyversion.mending import mended, told_by
from everyversion.moving import as_store, is_amid, pieces_left
from everyversion.reader import read_schema
from everyversion.shower import show_answer, show_database, show_schema
from everyversion.sidebyside import deed_on, first_disk
from everyversion.store import view
from everyversion.trees import schema_at

# How a LINE is answered that is not done, but for a TRANSACTION that is REFUSED and a CHANGE that is.
REFUSALS = {
    "version": "NotLive",
    "end": "NotEnd",
    "home": "IsHome",
    "moving": "Moving",
    "resting": "Resting",
    "neighbour": "NotNeighbour",
    "piece": "NoPiece",
    "moved": "NotMoved",
}


def _refused(word, things):
    """Return the words of what a LINE is told that is not done."""
    if word == "refused":
        index, reason = things
        return f"refused {index} {reason[0]}"
    if word == "taken":
        return "refused " + things[0].replace(" ", "")
    return "refused " + REFUSALS[word]


def _answers(told):
    """Return the list of the words of what a LINE is told."""
    if told[0] == "answers":
        return [show_answer(answer) for answer in told[1]]
    if told[0] == "version":
        return [f"version {told[1]}"]
    return ["done"] if told[0] == "done" else [_refused(told[1], told[2])]


def _lines(text):
    """Return the list of the lines of a text, [] if it has none."""
    return text.split("\n") if text != "" else []


def _state(kept):
    """Return the list of what is told of the home, and of its goal."""
    if not is_amid(kept):
        return [f"home {kept[2]}"]
    moved, left = len(kept[4]), len(pieces_left(kept))
    return [f"home {kept[2]}", f"goal {kept[3]}", f"moved {moved} of {moved + left}"]


class Desk:
    """A DISK that begins with the SCHEMA of a text, and commands to it."""

    def __init__(self, text):
        self._disk = first_disk(read_schema(text))
        # Behind how many WRITES of the next DEED power fails, None if no cut waits.
        self._cut = None

    def _do(self, line):
        """Do a LINE that is no cut, and return its answer."""
        told, cells, phases = deed_on(self._disk, line)
        if self._cut is None or phases == ():
            self._disk = cells
            return _answers(told)
        left = torn_behind(self._disk, phases, self._cut)
        answer = told_by(self._disk, cells, left)
        self._disk = mended(left)
        self._cut = None
        return [answer]

    def _show(self, command):
        """Return the answer to a command that changes nothing."""
        kept = self.kept()
        if command[0] == NOT_LIVE:
            return [_refused("version", command[1:])]
        if command[0] == "state":
            return _state(kept)
        if command[0] == "cells":
            return [str(len(self._disk))]
        schema = schema_at(kept[0], command[1])
        if command[0] == "schema":
            return _lines(show_schema(schema))
        return _lines(show_database(schema, view(as_store(kept), command[1])))

    def execute(self, line):
        """[R] Do what a line tells, and return the list of what it is answered."""
        if not isinstance(line, str) or "\n" in line:
            raise Wrong(0)
        try:
            command = read_command(self.kept(), line)
        except NoText:
            raise NoCommand() from None
        if command[0] == "cut":
            self._cut = command[1]
            return ["done"]
        return self._do(command) if command[0] in LINES else self._show(command)

    def kept(self):
        """Return the STORE or MOVING STORE that the DISK keeps."""
        return kept_by(self._disk)

    def disk(self):
        """Return a copy of the DISK."""
        return {address: self._disk[address] for address in self._disk}

    def twin(self):
        """Return an independent Desk in the same state."""
        other = Desk("")
        other._disk = self.disk()
        other._cut = self._cut
        return other

    def __eq__(self, other):
        return isinstance(other, Desk) and self._disk == other._disk and self._cut == other._cut
