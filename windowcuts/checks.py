"""The errors that come first in what answers for sound plans alone."""

from windowcuts.counts import unsound
from windowcuts.errors import Unknown, Unreached, Unsound


def check_sound(plan):
    """Raise Unsound for the least place at which a reader can be refused."""
    places = unsound(plan)
    if len(places) > 0:
        edge, index = places[0]
        raise Unsound(edge, index)


def check_reached(plan, states, edges):
    """Raise Unknown, then Unreached, for the first of these states and edges that is so."""
    check_known(plan, states, edges)
    check_used(plan, states, edges)


def check_known(plan, states, edges):
    """Raise Unknown for the first of these states and edges that a plan has not at all."""
    known = plan.states()
    for state in states:
        if state not in known:
            raise Unknown(state)
    for edge in edges:
        if edge not in plan:
            raise Unknown(edge)


def check_used(plan, states, edges):
    """Raise Unreached for the first of these states and edges that no row comes to."""
    reached = plan.reached()
    for state in states:
        if state not in reached:
            raise Unreached(state)
    used = plan.used()
    for edge in edges:
        if edge not in used:
            raise Unreached(edge)
