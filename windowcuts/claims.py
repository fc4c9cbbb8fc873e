"""Claims: lists of the signs and the equal slots of all states, which can be checked edge by edge."""

from windowcuts.checks import check_sound
from windowcuts.closing import are_equals, are_values, is_closed, spread_claims
from windowcuts.spread import Spread
from windowcuts.steps import plan_steps


def all_claims(plan):
    """The signs in all slots, and all pairs of slots that do not differ: closed lists, ascending."""
    check_sound(plan)
    spread = Spread(plan.signs, plan.start, plan_steps(plan))
    return spread_claims(spread, plan.reached(), plan.width)


def are_claims(plan, values, equals):
    """Whether any two values are lists of claims that are closed."""
    check_sound(plan)
    states = {state: True for state in plan.reached()}
    if not are_values(plan.signs, plan.width, states, values) or not are_equals(plan.width, states, equals):
        return False
    signs = {(state, slot): told for state, slot, told in values}
    pairs = {claim: True for claim in equals}
    return all([is_closed(step, signs, pairs) for step in plan_steps(plan)])
