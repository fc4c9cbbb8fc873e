"""Damage: what a wrong or lost sign spoils, and for how long."""

from windowcuts.checks import check_reached, check_sound
from windowcuts.kinds import is_integer, is_within
from windowcuts.leads import way_to
from windowcuts.trails import Trails


def lost_marks(plan, edge):
    """The marks of a lost piece: of the slots behind an edge that its signs come to, ascending."""
    check_sound(plan)
    check_reached(plan, [], [edge])
    return marks_behind(plan, edge)


def state_marks(plan, state):
    """The marks with all slots of a state, ascending."""
    check_sound(plan)
    check_reached(plan, [state], [])
    return _marks(state, plan.width)


def marks_behind(plan, edge):
    """The marks with the slots behind an edge that its signs come to, ascending."""
    _, target, piece = plan[edge]
    return _marks(target, min(len(piece), plan.width))


def latest_of(numbers, marks):
    """The greatest number of any of the marks, 0 for none, None if one of them has none."""
    if not all([mark in numbers for mark in marks]):
        return None
    return max([0] + [numbers[mark] for mark in marks])


def _marks(state, many):
    return [(state, slot) for slot in range(1, many + 1)]


class Damage:
    """What hangs on marks, tuples (state, slot) of slots with a sign that is wrong or lost."""

    def __init__(self, plan, marks):
        check_sound(plan)
        check_reached(plan, [state for state, _ in marks], [])
        self._width = plan.width
        self._reached = plan.reached()
        self._marks = sorted({mark: True for mark in marks})
        self._trails = Trails(plan)
        self._leads = self._trails.hanging(self._marks)
        self._numbers = self._trails.latest()

    def slots(self):
        """All slots that hang on a mark, ascending."""
        return sorted(self._leads)

    def places(self):
        """All places that are spoilt, ascending."""
        return self._trails.spoilt(self.slots())

    def until(self):
        """The greatest number of signs at which a place is spoilt, 0 for none, None for no greatest one."""
        return latest_of(self._numbers, self._marks)

    def longest(self):
        """A mark, a path and a place of its last edge that is spoilt at the greatest number, or None."""
        until = self.until()
        if until is None or until == 0:
            return None
        mark = [slot for slot in self._marks if self._numbers[slot] == until][0]
        path, index = self._latest(mark)
        return mark, path, index

    def ring(self):
        """A mark, a path to a slot, and a path that leads its sign round to it, or None."""
        if self.until() is not None:
            return None
        slot = [one for one in self.slots() if one not in self._numbers][0]
        walk = []
        edges = []
        while slot not in walk:
            walk.append(slot)
            edge, slot = [move for move in self._trails.moves(slot) if move[1] not in self._numbers][0]
            edges.append(edge)
        mark, lead = way_to(self._leads, slot)
        return mark, lead, edges[walk.index(slot):]

    def numbers(self):
        """The tuples (state, slot, number) of all hanging slots, ascending, or None if until() is."""
        if self.until() is None:
            return None
        return [(state, slot, self._numbers[state, slot]) for state, slot in self.slots()]

    def is_numbers(self, thing):
        """Whether any value is a list of numbers behind which nothing is spoilt."""
        if not isinstance(thing, list) or not all([self._is_number(told) for told in thing]):
            return False
        numbers = {(state, slot): number for state, slot, number in thing}
        if len(numbers) != len(thing) or not all([mark in numbers for mark in self._marks]):
            return False
        return all([self._is_late_enough(slot, numbers) for slot in numbers])

    def _latest(self, mark):
        """A path from a slot, and the place of its last edge that is spoilt at the number of the slot."""
        path = []
        slot, number = mark, self._numbers[mark]
        while number not in [index + 1 for _, index in self._trails.spots(slot)]:
            edge, slot = self._move_to(slot, number)
            path.append(edge)
            number = number - self._trails.size(edge)
        edge = [place[0] for place in self._trails.spots(slot) if place[1] + 1 == number][0]
        return path + [edge], number - 1

    def _move_to(self, slot, number):
        """The first move from a slot that leaves of a number just what the slot behind has."""
        moves = [move for move in self._trails.moves(slot) if self._numbers[move[1]] > 0]
        return [move for move in moves if self._trails.size(move[0]) + self._numbers[move[1]] == number][0]

    def _is_number(self, thing):
        if not isinstance(thing, tuple) or len(thing) != 3:
            return False
        state, slot, number = thing
        if not isinstance(state, str) or state not in self._reached:
            return False
        return is_within(slot, 1, self._width) and is_integer(number) and number >= 0

    def _is_late_enough(self, slot, numbers):
        number = numbers[slot]
        if any([index + 1 > number for _, index in self._trails.spots(slot)]):
            return False
        for edge, behind in self._trails.moves(slot):
            if behind not in numbers:
                return False
            if numbers[behind] > 0 and numbers[behind] + self._trails.size(edge) > number:
                return False
        return True
