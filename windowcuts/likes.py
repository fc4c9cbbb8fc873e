"""Likes: whether two plans have the same rows and write the same texts."""

from windowcuts.checks import check_sound
from windowcuts.closing import are_equal, are_equals, are_values, is_closed, is_pair, spread_claims
from windowcuts.leads import leads_from
from windowcuts.roots import text_roots
from windowcuts.spread import Spread
from windowcuts.steps import step_along, wanted_fill


def compare(one, other):
    """Whether two plans are alike, with the pairs of their states, or a row with the fewest edges that is not."""
    check_sound(one)
    check_sound(other)
    pairs = _pairs_come_to(one, other)
    spread = _pair_spread(one, other, pairs)
    found = []
    for pair in pairs:
        found.extend(_differences(one, other, pair, spread))
    if len(found) == 0:
        return "alike", sorted(pairs)
    # Ahead of the first difference on a row the texts are the same, so each of the fewest edges is one.
    return min(found, key=lambda told: len(told[1]))


def alike_claims(one, other):
    """Lists of pairs, values and equals that show that two plans are alike, or None."""
    told = compare(one, other)
    if told[0] != "alike":
        return None
    pairs = told[1]
    values, equals = spread_claims(_pair_spread(one, other, pairs), pairs, max(one.width, other.width))
    return pairs, values, equals


def are_alike_claims(one, other, pairs, values, equals):
    """Whether any three values are lists that show that two plans are alike."""
    check_sound(one)
    check_sound(other)
    if not _are_pairs(one, other, pairs):
        return False
    keys = {pair: True for pair in pairs}
    width = max(one.width, other.width)
    if not are_values(one.signs, width, keys, values) or not are_equals(width, keys, equals):
        return False
    if (one.start, other.start) not in keys or not all([_is_led_on(one, other, pair, keys) for pair in keys]):
        return False
    signs = {(pair, slot): told for pair, slot, told in values}
    claimed = {claim: True for claim in equals}
    steps = _pair_steps(one, other, list(keys))
    return all([is_closed(step, signs, claimed) and _writes_alike(one, other, step, signs, claimed) for step in steps])


def _pairs_come_to(one, other):
    """The pairs of the states to which a row leads in both plans, as long as the pieces go together."""
    return list(leads_from([(one.start, other.start)], lambda pair: _onward(one, other, pair)))


def _onward(one, other, pair):
    """The edges that lead on in both plans with pieces that go together, and the pairs of their targets."""
    edges = [edge for edge in one.out(pair[0]) if edge in other.out(pair[1])]
    return [(edge, (one[edge][1], other[edge][1])) for edge in edges if _go_together(one[edge][2], other[edge][2])]


def _go_together(piece, another):
    return piece.holes() == another.holes() and len(piece) == len(another)


def _pair_steps(one, other, pairs):
    """The steps from pairs to pairs, with the pieces of the one plan."""
    width = max(one.width, other.width)
    steps = []
    for pair in pairs:
        lines = _onward(one, other, pair)
        for edge, behind in lines:
            steps.append(step_along(edge, pair, behind, one[edge][2], width))
    return steps


def _pair_spread(one, other, pairs):
    return Spread(one.signs, (one.start, other.start), _pair_steps(one, other, pairs))


def _differences(one, other, pair, spread):
    """What is told of the rows that lead to a pair and then along one edge, if they are not the same."""
    ours, its = one.out(pair[0]), other.out(pair[1])
    row, fill = spread.row_to((pair,))
    found = [("rows", row + [edge]) for edge in ours if edge not in its]
    found.extend([("rows", row + [edge]) for edge in its if edge not in ours])
    for edge in ours:
        if edge in its:
            piece, another = one[edge][2], other[edge][2]
            if piece.holes() != another.holes():
                found.append(("holes", row + [edge]))
            elif len(piece) != len(another):
                found.append(("texts", row + [edge], fill + wanted_fill(piece.holes(), {})))
            else:
                found.extend(_unlike_texts(edge, pair, piece, another, spread))
    return found


def _unlike_texts(edge, pair, piece, another, spread):
    """What is told for each place at which two pieces behind a pair can write unlike signs."""
    choices = piece.holes()
    found = []
    for root, against in zip(text_roots(piece), text_roots(another)):
        lead = spread.unlike_lead(pair, root, against, choices)
        if lead is not None:
            node, wanted = lead
            row, fill = spread.row_to(node)
            found.append(("texts", row + [edge], fill + wanted_fill(choices, wanted)))
    return found


def _are_pairs(one, other, thing):
    """Whether any value is a list of tuples of a state of the one plan and a state of the other."""
    states, its = one.states(), other.states()
    return isinstance(thing, list) and all([is_pair(told) and told[0] in states and told[1] in its for told in thing])


def _is_led_on(one, other, pair, keys):
    """Whether the same edges lead from both states of a pair to pairs, with pieces that go together."""
    edges = one.out(pair[0])
    lines = _onward(one, other, pair)
    return edges == other.out(pair[1]) and len(lines) == len(edges) and all([behind in keys for _, behind in lines])


def _writes_alike(one, other, step, signs, claimed):
    """Whether the pieces of both plans write equal signs along a step, by the claims for its source."""
    roots, its = text_roots(one[step.edge][2]), text_roots(other[step.edge][2])
    return all([are_equal(step, root, against, signs, claimed) for root, against in zip(roots, its)])
