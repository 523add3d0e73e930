"""The errors of Everyversion. Each keeps the arguments of its constructor as fields."""


class VersionError(ValueError):
    """What all errors of this package are; it is raised nowhere itself."""


class IsHome(VersionError):
    """A version that is the home, or the goal of a moving one, is not taken away."""

    def __init__(self, version):
        self.version = version


class NoCommand(VersionError):
    """A line that is none of a desk's."""

    def __init__(self):
        pass


class NoPiece(VersionError):
    """What is none of the pieces that are left."""

    def __init__(self, piece):
        self.piece = piece


class NoText(VersionError):
    """The first line of a text that does not read."""

    def __init__(self, line):
        self.line = line


class NotEnd(VersionError):
    """A version that is no end, or the only one."""

    def __init__(self, version):
        self.version = version


class NotMoved(VersionError):
    """The least piece that has not moved."""

    def __init__(self, piece):
        self.piece = piece


class NotNeighbour(VersionError):
    """A version that is no neighbour of the home."""

    def __init__(self, version):
        self.version = version


class NotTaken(VersionError):
    """A change that is refused, and why."""

    def __init__(self, word, things):
        self.word = word
        self.things = things


class Refused(VersionError):
    """The statement at which a transaction is refused, and why."""

    def __init__(self, index, reason):
        self.index = index
        self.reason = reason


class Wrong(VersionError):
    """The place of the first argument that is not as described."""

    def __init__(self, place):
        self.place = place
