"""All errors that the package raises."""


class WindowError(ValueError):
    """What every error of the package is."""


class Wrong(WindowError):
    """An argument is not as described."""

    def __init__(self, place):
        self.place = place


class Unlike(WindowError):
    """Two things have signs, widths or starts that are not the same."""


class TooLong(WindowError):
    """There would be more than a limit, or less than there must be."""

    def __init__(self, limit):
        self.limit = limit


class NoToken(WindowError):
    """A reader is given what is no token for it."""


class Short(WindowError):
    """A distance goes back further than there are signs."""

    def __init__(self, distance, ahead):
        self.distance = distance
        self.ahead = ahead


class BadEdge(WindowError):
    """An edge has a piece that does not fit its plan."""

    def __init__(self, name):
        self.name = name


class Unknown(WindowError):
    """There is no such state or edge."""

    def __init__(self, name):
        self.name = name


class Clash(WindowError):
    """Two plans have one name for different edges."""

    def __init__(self, name):
        self.name = name


class NoRow(WindowError):
    """No edge of this name leads on."""

    def __init__(self, at):
        self.at = at


class NoFill(WindowError):
    """A fill does not fit the holes."""

    def __init__(self, at):
        self.at = at


class TooFar(WindowError):
    """A distance is greater than a width."""

    def __init__(self, distance):
        self.distance = distance


class NoEntry(WindowError):
    """There is nothing with this index."""

    def __init__(self, at):
        self.at = at


class NoPlace(WindowError):
    """There is no such place."""

    def __init__(self, edge, index):
        self.edge = edge
        self.index = index


class Unsound(WindowError):
    """A reader can be refused at a place of a plan."""

    def __init__(self, edge, index):
        self.edge = edge
        self.index = index


class Unreached(WindowError):
    """A plan does not come to a state, or does not have an edge."""

    def __init__(self, name):
        self.name = name


class NoLimit(WindowError):
    """A flow has no greatest amount."""


class NoText(WindowError):
    """A line of a text is not as it is written."""

    def __init__(self, at):
        self.at = at


class NoEdit(WindowError):
    """A draft is given what is no edit."""


class Full(WindowError):
    """A log has as many edits as it may."""

    def __init__(self, limit):
        self.limit = limit


class Nothing(WindowError):
    """There is no edit to undo, or to do again."""


class NoCommand(WindowError):
    """A desk is given a line that is no command."""
