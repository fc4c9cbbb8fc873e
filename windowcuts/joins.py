"""Joins: what comes of reading on in another plan."""

from windowcuts.alone import first_refusal
from windowcuts.checks import check_known, check_sound, check_used
from windowcuts.counts import least_kept
from windowcuts.errors import Unlike
from windowcuts.facts import Facts
from windowcuts.trails import Trails


def join(plan, state, other, its):
    """What comes of reading a row of a plan to a state, and then a path of another plan from a state of its."""
    _check(plan, state, other, its)
    # Where fewer signs are kept, a reader is refused no later.
    refusal = first_refusal(other, its, least_kept(plan)[state])
    if refusal is not None:
        return "short", refusal[0]
    trails = Trails(other)
    places = trails.spoilt(trails.hanging(_unlike_slots(plan, state, other, its)))
    if len(places) > 0:
        return "wrong", places
    return ("right",)


def _check(plan, state, other, its):
    if plan.signs != other.signs or plan.width != other.width:
        raise Unlike()
    check_sound(plan)
    check_sound(other)
    check_known(plan, [state], [])
    check_known(other, [its], [])
    check_used(plan, [state], [])
    check_used(other, [its], [])


def _unlike_slots(plan, state, other, its):
    """The slots of the other state whose sign can be unlike the one behind some row of the plan."""
    ours, others = Facts(plan), Facts(other)
    found = []
    for slot in range(1, plan.width + 1):
        # Any row of the one meets any row of the other. What is not there on each of them is never read.
        one = ours.signs_in(state, slot)
        if one != others.signs_in(its, slot) or len(one) > 1:
            found.append((its, slot))
    return found
