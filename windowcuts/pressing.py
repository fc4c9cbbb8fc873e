"""Pressing: the cheapest tokens for the pieces of a plan that write the same texts."""

from windowcuts.checks import check_reached
from windowcuts.counts import kept_ahead, least_kept
from windowcuts.errors import NoPlace
from windowcuts.facts import Facts
from windowcuts.pieces import Piece
from windowcuts.plans import Plan
from windowcuts.roots import text_roots
from windowcuts.steps import told_signs


def piece_price(piece, *, sign_price=1, copy_price=2):
    """What the merged piece costs: a price for each sign that its stream carries, another for each copy."""
    price = 0
    for token in piece.merged().tokens():
        if token[0] == "copy":
            price = price + copy_price
        elif token[0] == "text":
            price = price + sign_price * len(token[1])
        elif token[0] == "any":
            price = price + sign_price
        elif token[0] == "say":
            price = price + sign_price * token[2]
    return price


def fixed_sign(plan, edge, index):
    """The sign that stands at a place on all rows, with all fills, or None if there are several."""
    return _asked_place(plan, edge, index).fixed(index)


def right_distances(plan, edge, index):
    """The distances at which a reader surely keeps an equal sign at a place, ascending."""
    return _asked_place(plan, edge, index).distances(index)


def beginning_prices(plan, edge, *, sign_price=1, copy_price=2):
    """The least prices of the first 0, 1, 2, .. places of the piece of an edge."""
    facts = Facts(plan)
    check_reached(plan, [], [edge])
    return _cheapest(EdgeSigns(plan, facts, edge), sign_price, copy_price)[0]


def pressed(plan, *, sign_price=1, copy_price=2):
    """The plan with the cheapest pieces, and the dict of their prices."""
    facts = Facts(plan)
    edges = plan.edges()
    prices = {}
    for edge in plan.used():
        source, target, piece = plan[edge]
        numbers, places = _cheapest(EdgeSigns(plan, facts, edge), sign_price, copy_price)
        edges[edge] = (source, target, Piece.of_places(plan.signs, places, piece.flushes()))
        prices[edge] = numbers[-1]
    return Plan(plan.signs, plan.width, plan.start, edges), prices


def _asked_place(plan, edge, index):
    """What is known of the signs of an edge, behind all errors."""
    facts = Facts(plan)
    check_reached(plan, [], [edge])
    if not 0 <= index < len(plan[edge][2]):
        raise NoPlace(edge, index)
    return EdgeSigns(plan, facts, edge)


class EdgeSigns:
    """What is sure of the signs that the piece of an edge writes, behind all rows, with all fills."""

    def __init__(self, plan, facts, edge):
        source, _, piece = plan[edge]
        self._facts = facts
        self._state = source
        self._width = plan.width
        self._piece = piece
        self._kept = kept_ahead(piece, least_kept(plan)[source])
        # The last signs, up to those that stood ahead of the piece.
        self._line = [("slot", slot) for slot in range(plan.width, 0, -1)] + text_roots(piece)

    def piece(self):
        """The piece of the edge."""
        return self._piece

    def fixed(self, index):
        """The only sign of a place, or None."""
        root = self._line[self._width + index]
        if root[0] == "slot":
            signs = self._facts.signs_in(self._state, root[1])
        else:
            signs = told_signs(root, self._piece.holes())
        return signs if len(signs) == 1 else None

    def distances(self, index):
        """The right distances at a place, ascending."""
        most = min(self._width, self._kept[index])
        return [distance for distance in range(1, most + 1) if self._is_right(self._width + index, distance)]

    def _is_right(self, at, distance):
        one, other = self._line[at], self._line[at - distance]
        return not self._facts.unlike(self._state, one, other, self._piece.holes())


def _cheapest(known, sign_price, copy_price):
    """The least prices of all beginnings of a piece, and the places of a cheapest one."""
    best = (0, [])
    # For each distance, the cheapest places that end with a copy of this distance. None goes on over a flush,
    # as nothing is kept behind it.
    copies = {}
    numbers = [0]
    for index, place in enumerate(known.piece().places()):
        ahead = copies
        copies = {}
        if place[0] != "hole":
            for distance in known.distances(index):
                # To go on with a copy costs nothing, so it is never dearer than a new one.
                price, places = ahead.get(distance, (best[0] + copy_price, best[1]))
                copies[distance] = (price, places + [("copy", distance)])
        best = (best[0] + sign_price, best[1] + [_told(known, index, place)])
        for distance in copies:
            if copies[distance][0] < best[0]:
                best = copies[distance]
        numbers.append(best[0])
    return numbers, best[1]


def _told(known, index, place):
    """A place that carries its sign: an open one, its only sign, or what is said.

    Where the sign is not fixed, the piece has a copy or a say, and as many signs are written as are kept.
    """
    if place[0] == "hole":
        return place
    sign = known.fixed(index)
    return ("say", place[1]) if sign is None else ("sign", sign)
