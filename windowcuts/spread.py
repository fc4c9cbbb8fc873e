"""Spread: what can stand in slots behind rows, and the rows with the fewest edges that show it.

A node tells what holds behind some row to a state, with some fill: (state,) that there is one;
(state, slot, sign) that the slot has this sign; (state, one, other), one less than other, that
these two slots are there with unlike signs. Each comes from one node ahead of the last edge.
"""

from windowcuts.leads import leads_from, way_to
from windowcuts.steps import told_signs, unlike_signs, wanted_fill, wanted_signs


class Spread:
    """All nodes that hold, for steps from states to states."""

    def __init__(self, signs, start, steps):
        self._signs = signs
        lines = {}
        for step in steps:
            lines.setdefault(step.source, []).append(Line(step))
        self._leads = leads_from([(start,)], lambda node: _onward(lines.get(node[0], []), node))

    def slot_signs(self, state, slot):
        """The signs that stand in a slot, ascending."""
        return "".join([sign for sign in self._signs if (state, slot, sign) in self._leads])

    def holds_unlike(self, state, one, other):
        """Whether two slots are there with unlike signs behind some row."""
        return pair_node(state, one, other) in self._leads

    def row_to(self, node):
        """The row with the fewest edges, and the fill, behind which a node holds, or None."""
        if node not in self._leads:
            return None
        row = []
        fill = []
        for step, wanted in way_to(self._leads, node)[1]:
            row.append(step.edge)
            fill.extend(wanted_fill(step.choices, wanted))
        return row, fill

    def unlike_lead(self, state, one, other, choices):
        """The node with the fewest edges behind which two roots are unlike, and the wanted signs, or None."""
        if one[0] == "slot" and other[0] == "slot":
            unlike = self.holds_unlike(state, one[1], other[1])
            return (pair_node(state, one[1], other[1]), {}) if unlike else None
        if other[0] == "slot":
            one, other = other, one
        best = None
        fewest = None
        for node, signs in self._nodes_of(state, one, choices):
            wanted = unlike_signs(one, signs, other, told_signs(other, choices))
            if wanted is not None:
                edges = len(way_to(self._leads, node)[1])
                if best is None or edges < fewest:
                    best, fewest = (node, wanted), edges
        return best

    def _nodes_of(self, state, root, choices):
        """The nodes behind which a root has some signs, and these."""
        if root[0] != "slot":
            return [((state,), told_signs(root, choices))]
        return [((state, root[1], sign), sign) for sign in self.slot_signs(state, root[1])]


class Line:
    """A step, and which slots behind it have a sign that it tells, or the one of a slot ahead."""

    def __init__(self, step):
        self.step = step
        self._given = []
        self._heirs = {}
        for at, root in enumerate(step.origins):
            if root[0] == "slot":
                self._heirs.setdefault(root[1], []).append(at + 1)
            else:
                self._given.append((at + 1, root, told_signs(root, step.choices)))

    def behind_row(self):
        """The nodes behind the step that hold whatever stands ahead, each with what it asks of the holes."""
        target = self.step.target
        found = [((target,), {})]
        for at, (slot, root, signs) in enumerate(self._given):
            found.extend([((target, slot, sign), wanted_signs(root, sign)) for sign in signs])
            for other, another, others in self._given[at + 1:]:
                wanted = unlike_signs(root, signs, another, others)
                if wanted is not None:
                    found.append((pair_node(target, slot, other), wanted))
        return found

    def behind_sign(self, slot, sign):
        """The same, of those that hold because this slot ahead has this sign."""
        target = self.step.target
        found = []
        for heir in self._heirs.get(slot, []):
            found.append(((target, heir, sign), {}))
            for other, root, signs in self._given:
                wanted = unlike_signs(("slot", slot), sign, root, signs)
                if wanted is not None:
                    found.append((pair_node(target, heir, other), wanted))
        return found

    def behind_pair(self, one, other):
        """The same, of those that hold because these two slots ahead are unlike."""
        found = []
        for heir in self._heirs.get(one, []):
            for another in self._heirs.get(other, []):
                found.append((pair_node(self.step.target, heir, another), {}))
        return found


def pair_node(state, one, other):
    """The node that tells that two slots are unlike."""
    return (state, min(one, other), max(one, other))


def _onward(lines, node):
    found = []
    for line in lines:
        if len(node) == 1:
            behind = line.behind_row()
        elif isinstance(node[2], str):
            behind = line.behind_sign(node[1], node[2])
        else:
            behind = line.behind_pair(node[1], node[2])
        found.extend([((line.step, wanted), after) for after, wanted in behind])
    return found
