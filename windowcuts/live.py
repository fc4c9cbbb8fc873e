"""Live: which slots of a state are still read."""

from windowcuts.checks import check_reached, check_sound
from windowcuts.leads import way_to
from windowcuts.trails import Trails


def live(plan, state):
    """The slots of a state for which, as a mark, some place is spoilt, ascending."""
    _check(plan, state)
    trails = Trails(plan)
    return [slot for slot in range(1, plan.width + 1) if _shortest(trails, (state, slot)) is not None]


def live_path(plan, state, slot):
    """A path with the fewest edges to a place that is spoilt for a slot, and the least such place, or None."""
    _check(plan, state)
    return _shortest(Trails(plan), (state, slot))


def _check(plan, state):
    check_sound(plan)
    check_reached(plan, [state], [])


def _shortest(trails, mark):
    leads = trails.hanging([mark])
    for slot in leads:
        spots = trails.spots(slot)
        if len(spots) > 0:
            # Nothing is copied ahead of the last edge, so the sign stands in this slot alone, and places ascend.
            edge, index = spots[0]
            return way_to(leads, slot)[1] + [edge], index
    return None
