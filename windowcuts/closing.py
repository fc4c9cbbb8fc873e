"""Closing: claims of signs and equal slots for all keys, which are states, or pairs of states of two plans."""

from windowcuts.kinds import is_choice, is_within
from windowcuts.steps import told_signs, unlike_signs


def spread_claims(spread, keys, width):
    """The signs in all slots, and all pairs of slots that do not differ, as a spread tells them."""
    slots = range(1, width + 1)
    values = []
    equals = []
    for key in keys:
        for one in slots:
            values.append((key, one, spread.slot_signs(key, one)))
            others = [other for other in slots if one < other]
            equals.extend([(key, one, other) for other in others if not spread.holds_unlike(key, one, other)])
    return values, equals


def are_values(signs, width, keys, thing):
    """Whether any value is a list of values with one tuple for each key and slot."""
    if not isinstance(thing, list) or not all([_is_value(signs, width, keys, claim) for claim in thing]):
        return False
    slots = {(key, slot): True for key, slot, _ in thing}
    return len(slots) == len(thing) == len(keys) * width


def are_equals(width, keys, thing):
    """Whether any value is a list of equals for these keys."""
    return isinstance(thing, list) and all([_is_equal(width, keys, claim) for claim in thing])


def is_pair(thing):
    """Whether any value is a tuple of two strings."""
    return isinstance(thing, tuple) and len(thing) == 2 and isinstance(thing[0], str) and isinstance(thing[1], str)


def _is_value(signs, width, keys, thing):
    if not _is_of_key(keys, thing) or not is_within(thing[1], 1, width):
        return False
    return isinstance(thing[2], str) and (thing[2] == "" or is_choice(signs, thing[2]))


def _is_equal(width, keys, thing):
    if not _is_of_key(keys, thing) or not is_within(thing[2], 1, width):
        return False
    return is_within(thing[1], 1, thing[2] - 1)


def _is_of_key(keys, thing):
    if not isinstance(thing, tuple) or len(thing) != 3:
        return False
    return (isinstance(thing[0], str) or is_pair(thing[0])) and thing[0] in keys


def is_closed(step, signs, equals):
    """Whether the claims for the target of a step have all that the step leads there.

    signs is a dict from tuples (key, slot), equals one with the tuples of equals as its keys.
    """
    for at, root in enumerate(step.origins):
        claimed = signs[step.target, at + 1]
        if not all([sign in claimed for sign in _root_signs(step, root, signs)]):
            return False
    for key, one, other in equals:
        if key == step.target and not are_equal(step, step.origins[one - 1], step.origins[other - 1], signs, equals):
            return False
    return True


def are_equal(step, one, other, signs, equals):
    """Whether two roots are equal by the claims for the source of a step."""
    if one[0] == "slot" and other[0] == "slot":
        if (step.source, min(one[1], other[1]), max(one[1], other[1])) in equals:
            return True
    return unlike_signs(one, _root_signs(step, one, signs), other, _root_signs(step, other, signs)) is None


def _root_signs(step, root, signs):
    """The signs that a root can have by the claims for the source of a step."""
    if root[0] == "slot":
        return signs[step.source, root[1]]
    return told_signs(root, step.choices)
