"""Claims: lists of the signs and the equal slots of all states, which can be checked edge by edge."""

from windowcuts.checks import check_sound
from windowcuts.facts import Facts
from windowcuts.kinds import is_choice, is_within
from windowcuts.steps import plan_steps, told_signs, unlike_signs


def all_claims(plan):
    """The signs in all slots, and all pairs of slots that do not differ: closed lists, ascending."""
    facts = Facts(plan)
    slots = range(1, plan.width + 1)
    values = []
    equals = []
    for state in plan.reached():
        for one in slots:
            values.append((state, one, facts.signs_in(state, one)))
            others = [other for other in slots if one < other]
            equals.extend([(state, one, other) for other in others if not facts.differ(state, one, other)])
    return values, equals


def are_claims(plan, values, equals):
    """Whether any two values are lists of claims that are closed."""
    check_sound(plan)
    if not _are_values(plan, values) or not _are_equals(plan, equals):
        return False
    signs = {(state, slot): told for state, slot, told in values}
    pairs = {claim: True for claim in equals}
    return all([_is_closed(step, signs, pairs) for step in plan_steps(plan)])


def _are_values(plan, thing):
    states = plan.reached()
    if not isinstance(thing, list) or not all([_is_value(plan, states, claim) for claim in thing]):
        return False
    slots = {(state, slot): True for state, slot, _ in thing}
    return len(slots) == len(thing) == len(states) * plan.width


def _is_value(plan, states, thing):
    if not _is_of_state(states, thing) or not is_within(thing[1], 1, plan.width):
        return False
    return isinstance(thing[2], str) and (thing[2] == "" or is_choice(plan.signs, thing[2]))


def _are_equals(plan, thing):
    states = plan.reached()
    return isinstance(thing, list) and all([_is_equal(plan, states, claim) for claim in thing])


def _is_equal(plan, states, thing):
    if not _is_of_state(states, thing) or not is_within(thing[2], 1, plan.width):
        return False
    return is_within(thing[1], 1, thing[2] - 1)


def _is_of_state(states, thing):
    if not isinstance(thing, tuple) or len(thing) != 3:
        return False
    return isinstance(thing[0], str) and thing[0] in states


def _is_closed(step, signs, pairs):
    """Whether the claims for the target of a step have all that the step leads there."""
    for at, root in enumerate(step.origins):
        claimed = signs[step.target, at + 1]
        if not all([sign in claimed for sign in _root_signs(step, root, signs)]):
            return False
    for state, one, other in pairs:
        if state == step.target and not _are_equal(step, one, other, signs, pairs):
            return False
    return True


def _are_equal(step, one, other, signs, pairs):
    """Whether two slots behind a step are equal by the claims for its source."""
    root, another = step.origins[one - 1], step.origins[other - 1]
    if root[0] == "slot" and another[0] == "slot":
        if (step.source, min(root[1], another[1]), max(root[1], another[1])) in pairs:
            return True
    return unlike_signs(root, _root_signs(step, root, signs), another, _root_signs(step, another, signs)) is None


def _root_signs(step, root, signs):
    """The signs that a root behind a step can have by the claims for its source."""
    if root[0] == "slot":
        return signs[step.source, root[1]]
    return told_signs(root, step.choices)
