"""Flushing: plans that flush at states, and how late what is lost spoils a place."""

from windowcuts.checks import check_reached, check_sound
from windowcuts.counts import unsound
from windowcuts.damage import latest_of, marks_behind
from windowcuts.pieces import Piece
from windowcuts.plans import Plan
from windowcuts.spelling import with_says
from windowcuts.trails import Trails


def flushed(plan, states):
    """The plan in which each edge from these states begins with a flush, and copies that this refuses are says."""
    check_sound(plan)
    check_reached(plan, states, [])
    return _flushed(plan, states)


def worst_loss(plan):
    """The edge whose lost piece spoils a place the latest, and how late that is, or None for a plan without rows."""
    check_sound(plan)
    worst = None
    losses = _losses(plan, Trails(plan))
    for edge, until in losses:
        if worst is None or _is_later(until, worst[1]):
            worst = (edge, until)
    return worst


def cheapest_flushes(plan, candidates, limit):
    """The least price, and the first choice for it, so that no lost piece spoils a place later than a limit."""
    check_sound(plan)
    check_reached(plan, [state for state, _ in candidates], [])
    choices = [()]
    for index in range(len(candidates)):
        choices = choices + [choice + (index,) for choice in choices]
    priced = sorted([(sum([candidates[index][1] for index in choice]), choice) for choice in choices])
    for price, choice in priced:
        changed = _flushed(plan, [candidates[index][0] for index in choice])
        if not any([_is_later(until, limit) for _, until in _losses(changed, Trails(changed))]):
            return price, choice
    return None


def too_late(plan, limit):
    """An edge, and a path behind it to a place that is spoilt later than a limit if its piece is lost, or None."""
    check_sound(plan)
    trails = Trails(plan)
    for edge, until in _losses(plan, trails):
        if _is_later(until, limit):
            path, index = _late_path(trails, marks_behind(plan, edge), limit)
            return edge, path, index
    return None


def _flushed(plan, states):
    edges = plan.edges()
    changed = {}
    for edge in edges:
        source, target, piece = edges[edge]
        flushes = [0] + piece.flushes() if source in states else piece.flushes()
        changed[edge] = (source, target, Piece.of_places(plan.signs, piece.places(), flushes))
    cut = Plan(plan.signs, plan.width, plan.start, changed)
    # As many signs are written as ahead, so what is refused now is a copy.
    return with_says(cut, unsound(cut))


def _losses(plan, trails):
    """For each edge that the plan has, until when its lost piece spoils places."""
    numbers = trails.latest()
    return [(edge, latest_of(numbers, marks_behind(plan, edge))) for edge in plan.used()]


def _is_later(one, other):
    """Whether a number is greater than another one, None being greater than each number."""
    return other is not None and (one is None or one > other)


def _late_path(trails, marks, limit):
    """A path from one of the marks to a place that is spoilt later than a limit, and the place."""
    numbers = trails.latest()
    slot = [mark for mark in marks if mark not in numbers or numbers[mark] > limit][0]
    path = []
    # A ring is gone round as often as it takes: a place is spoilt on each round.
    left = limit
    while True:
        for edge, index in trails.spots(slot):
            if index + 1 > left:
                return path + [edge], index
        edge, slot = _late_move(trails, slot, numbers, left)
        path.append(edge)
        left = left - trails.size(edge)


def _late_move(trails, slot, numbers, left):
    """A step from a slot behind which a place is spoilt when more signs than these are written."""
    for edge, behind in trails.moves(slot):
        if behind not in numbers or (numbers[behind] > 0 and trails.size(edge) + numbers[behind] > left):
            return edge, behind
    return None
