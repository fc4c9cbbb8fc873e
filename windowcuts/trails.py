"""Trails: where the sign in a slot comes to, through copies alone, along the edges that a plan has."""

from windowcuts.leads import leads_from
from windowcuts.roots import reader_roots


class Trails:
    """For each slot, a tuple (state, slot), what an edge from its state makes of its sign."""

    def __init__(self, plan):
        slots = [(state, slot) for state in plan.reached() for slot in range(1, plan.width + 1)]
        self._moves = {slot: [] for slot in slots}
        self._spots = {slot: [] for slot in slots}
        self._sizes = {}
        for edge in plan.used():
            source, target, piece = plan[edge]
            self._sizes[edge] = len(piece)
            roots = reader_roots(piece)
            for index, (kind, told) in enumerate(roots):
                if kind == "slot":
                    self._spots[source, told].append((edge, index))
            for slot, (kind, told) in enumerate(_slot_roots(plan.width, roots)):
                if kind == "slot":
                    self._moves[source, told].append((edge, (target, slot + 1)))

    def moves(self, slot):
        """The tuples (edge, slot) of the slots behind edges that have the sign of a slot."""
        return list(self._moves[slot])

    def spots(self, slot):
        """The places (edge, index) of edges that are copies of a slot."""
        return list(self._spots[slot])

    def size(self, edge):
        """How many signs an edge writes."""
        return self._sizes[edge]

    def hanging(self, marks):
        """The fewest edges to each slot that hangs on one of these: a dict as that of leads_from."""
        return leads_from(marks, lambda slot: self._moves[slot])

    def spoilt(self, slots):
        """The places that are copies of any of these slots, ascending."""
        found = {}
        for slot in slots:
            for place in self._spots[slot]:
                found[place] = True
        return sorted(found)

    def latest(self):
        """For each slot, the greatest number of signs at which a place is spoilt for it, or 0.

        A slot whose sign comes to a ring has none: it is spoilt for ever.
        """
        waits = {slot: len(self._moves[slot]) for slot in self._moves}
        ahead = {slot: [] for slot in self._moves}
        for slot in self._moves:
            for _, behind in self._moves[slot]:
                ahead[behind].append(slot)
        ready = [slot for slot in self._moves if waits[slot] == 0]
        numbers = {}
        while len(ready) > 0:
            settled = ready.pop()
            numbers[settled] = self._number(settled, numbers)
            for slot in ahead[settled]:
                waits[slot] = waits[slot] - 1
                if waits[slot] == 0:
                    ready.append(slot)
        return numbers

    def _number(self, slot, numbers):
        """The greatest number for a slot, if those of the slots behind it are known."""
        found = [0] + [index + 1 for _, index in self._spots[slot]]
        for edge, behind in self._moves[slot]:
            if numbers[behind] > 0:
                found.append(self._sizes[edge] + numbers[behind])
        return max(found)


def _slot_roots(width, roots):
    """The reader roots of the slots behind a piece with these, from slot 1 on."""
    ahead = [("slot", slot) for slot in range(1, width + 1)]
    return (roots[::-1] + ahead)[:width]
