"""Facts: which signs can stand in slots, and which slots are surely equal."""

from windowcuts.checks import check_reached, check_sound
from windowcuts.spread import Spread
from windowcuts.steps import plan_steps, wanted_fill


class Facts:
    """What can stand in the slots of a sound plan, behind all rows, with all fills."""

    def __init__(self, plan):
        check_sound(plan)
        self._plan = plan
        self._reached = plan.reached()
        self._spread = Spread(plan.signs, plan.start, plan_steps(plan))

    def signs_in(self, state, slot):
        """The signs that stand in a slot behind rows to a state, ascending."""
        self._check(state)
        return self._spread.slot_signs(state, slot)

    def value_row(self, state, slot, sign):
        """A row with the fewest edges, and a fill, behind which this sign stands in the slot, or None."""
        self._check(state)
        return self._spread.row_to((state, slot, sign))

    def differ(self, state, one, other):
        """Whether two slots are unlike behind some row."""
        return self.unlike(state, ("slot", one), ("slot", other), [])

    def differ_row(self, state, one, other):
        """A row with the fewest edges, and a fill, behind which two slots are unlike, or None."""
        told = self.unlike_row(state, ("slot", one), ("slot", other), [])
        return None if told is None else told[:2]

    def equals(self, state):
        """All pairs of slots that are surely equal, ascending."""
        # Where the greater slot is there, the lesser one is, too.
        slots = [slot for slot in range(1, self._plan.width + 1) if self.signs_in(state, slot) != ""]
        pairs = [(one, other) for one in slots for other in slots if one < other]
        return [(one, other) for one, other in pairs if not self.differ(state, one, other)]

    def unlike(self, state, one, other, holes):
        """Whether two roots behind a state are there and unlike, behind some row."""
        self._check(state)
        return self._spread.unlike_lead(state, one, other, holes) is not None

    def unlike_row(self, state, one, other, holes):
        """A row with the fewest edges, a fill, and signs of the holes, so that two roots are unlike, or None."""
        self._check(state)
        found = self._spread.unlike_lead(state, one, other, holes)
        if found is None:
            return None
        node, wanted = found
        row, fill = self._spread.row_to(node)
        return row, fill, wanted_fill(holes, wanted)

    def _check(self, state):
        if state not in self._reached:
            check_reached(self._plan, [state], [])
