"""Alone: at which states a reader that keeps nothing can begin."""

from windowcuts.checks import check_reached, check_sound
from windowcuts.counts import kept_leads, refused_places
from windowcuts.damage import Damage, state_marks
from windowcuts.leads import way_to


def reads_alone(plan, state):
    """Whether a reader that keeps nothing is never refused on a path from a state."""
    return refused_path(plan, state) is None


def refused_path(plan, state):
    """A path with the fewest edges in whose last one such a reader is refused, and the place, or None."""
    check_sound(plan)
    check_reached(plan, [state], [])
    return first_refusal(plan, state, 0)


def beginnings(plan):
    """The states at which a reader that keeps nothing is never refused, ascending."""
    check_sound(plan)
    return [state for state in plan.reached() if first_refusal(plan, state, 0) is None]


def settles(plan, state):
    """At which number of signs the last place is spoilt for a reader that begins at a state with marks."""
    return Damage(plan, state_marks(plan, state)).until()


def first_refusal(plan, state, kept):
    """The same as refused_path, for a reader that keeps so many signs at the state."""
    leads = kept_leads(plan, state, kept)
    for node in leads:
        at, number = node
        for edge in plan.out(at):
            refused = refused_places(plan[edge][2], number, plan.width)
            if len(refused) > 0:
                return way_to(leads, node)[1] + [edge], refused[0]
    return None
