"""Harms: what pieces that are read twice, exchanged or left out do."""

from windowcuts.alone import first_refusal
from windowcuts.checks import check_reached, check_sound
from windowcuts.counts import kept_behind, least_kept, refused_places
from windowcuts.facts import Facts
from windowcuts.frames import Frame
from windowcuts.kinds import is_spot
from windowcuts.leads import way_to
from windowcuts.roots import text_roots
from windowcuts.rows import path_end, path_holes
from windowcuts.trails import Trails


def harm(plan, state, names, order):
    """What comes of reading the pieces of a path from a state in another order than they were written."""
    end = _checked_end(plan, state, names)
    path = _short_path(plan, state, names, order, end)
    if path is not None:
        return "short", path
    trails = Trails(plan)
    unlike = Unlikeness(plan, state, names, order).unlike_slots()
    places = trails.spoilt(trails.hanging([(end, slot) for slot in unlike]))
    if len(places) > 0:
        return "wrong", places
    return ("right",)


def harm_shown(plan, state, names, order, place):
    """A row, a fill and a path on which a place is read wrongly, or None."""
    end = _checked_end(plan, state, names)
    if not is_spot(place) or _short_path(plan, state, names, order, end) is not None:
        return None
    unlike = Unlikeness(plan, state, names, order)
    trails = Trails(plan)
    for slot in unlike.unlike_slots():
        leads = trails.hanging([(end, slot)])
        for behind in leads:
            if place in trails.spots(behind):
                path = way_to(leads, behind)[1] + [place[0]]
                row, fill = unlike.shown(slot)
                return row, fill + [choice[0] for choice in path_holes(plan, path)], path
    return None


def _checked_end(plan, state, names):
    """The state to which the names lead, behind all errors."""
    check_sound(plan)
    check_reached(plan, [state], [])
    return path_end(plan, state, names)


def _short_path(plan, state, names, order, end):
    """A path behind the names with the fewest edges up to where the reader is refused, or None."""
    # Where fewer signs are kept, a reader is refused no later.
    kept = least_kept(plan)[state]
    for index in order:
        piece = plan[names[index]][2]
        if len(refused_places(piece, kept, plan.width)) > 0:
            return []
        kept = kept_behind(plan.width, kept, piece)
    refusal = first_refusal(plan, end, kept)
    return None if refusal is None else refusal[0]


class Unlikeness:
    """In which slots the reader of an order of pieces has another sign than the writer."""

    def __init__(self, plan, state, names, order):
        self._facts = Facts(plan)
        self._state = state
        blocks = []
        frame = Frame(plan.width)
        for name in names:
            piece = plan[name][2]
            blocks.append(_block_roots(frame, piece))
            frame = frame << piece
        self._wrote = frame
        # The last signs, up to those that stood ahead of the names.
        line = Frame(plan.width).roots()[::-1]
        for index in order:
            for kind, told in blocks[index]:
                line.append(line[-told] if kind == "copy" else (kind, told))
        self._read = line[::-1]

    def unlike_slots(self):
        """The slots that have an unlike sign behind some row, with some fill."""
        return [slot for slot in range(1, len(self._wrote) + 1) if self._is_unlike(slot)]

    def shown(self, slot):
        """A row, and a fill of the row and the names, for which this slot has an unlike sign."""
        choices = self._wrote.holes()
        row, fill, signs = self._facts.unlike_row(self._state, self._wrote[slot], self._read[slot - 1], choices)
        return row, fill + signs

    def _is_unlike(self, slot):
        return self._facts.unlike(self._state, self._wrote[slot], self._read[slot - 1], self._wrote.holes())


def _block_roots(frame, piece):
    """What a reader makes of each place of a block behind a frame: a copy, or a sign of a root.

    A block carries each say as a text, so what is said is what the writer had there.
    """
    roots = []
    for place, root in zip(piece.places(), text_roots(piece)):
        roots.append(place if place[0] == "copy" else frame.root_here(root))
    return roots
