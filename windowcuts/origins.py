"""Origins: the places of a row from which a sign of its text comes."""

from windowcuts.errors import NoEntry
from windowcuts.rows import holes, texts


def place_of(plan, names, at):
    """The index of an edge in the row, and the place of its piece, where a sign of the text stands."""
    return _written_places(plan, names, at)[at][0]


def chain(plan, names, at):
    """The places from which a sign of the text comes through copies, its own one first."""
    return _places_back(plan, names, at, ["copy"])


def full_chain(plan, names, at):
    """The places from which a sign of the text comes through copies and says, its own one first."""
    return _places_back(plan, names, at, ["copy", "say"])


def _places_back(plan, names, at, kinds):
    written = _written_places(plan, names, at)
    found = []
    while True:
        place, (kind, told) = written[at]
        found.append(place)
        if kind not in kinds:
            return found
        at = at - told


def _written_places(plan, names, at):
    """For each sign of the text of a row, its place, and what is told there."""
    choices = holes(plan, names)
    written = []
    for index, name in enumerate(names):
        for place, told in enumerate(plan[name][2].places()):
            written.append(((index, place), told))
    if not 0 <= at < len(written):
        raise NoEntry(at)
    # Any fill will do, as whether a row is refused does not depend on it.
    texts(plan, names, [choice[0] for choice in choices])
    return written
