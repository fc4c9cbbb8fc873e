"""Spelling: copies said as they are, and the cheapest ones so that told places hang on no mark."""

from windowcuts.checks import check_reached, check_sound
from windowcuts.errors import NoPlace
from windowcuts.kinds import is_integer, is_spot, is_within
from windowcuts.leads import leads_from
from windowcuts.network import greatest_flow
from windowcuts.pieces import Piece
from windowcuts.plans import Plan
from windowcuts.rows import is_path
from windowcuts.signlines import is_slot, place_name, sign_lines, slot_name, told_place, told_way
from windowcuts.trails import Trails


def spelled(plan, places):
    """The plan in which each of these places, copies, is a say with the same distance."""
    check_sound(plan)
    check_reached(plan, [], [edge for edge, _ in places])
    copies = _copies(plan)
    for edge, index in places:
        if (edge, index) not in copies:
            raise NoPlace(edge, index)
    return with_says(plan, places)


def with_says(plan, places):
    """The plan with merged pieces in which each of these copies is a say."""
    said = {place: True for place in places}
    edges = plan.edges()
    changed = {}
    for edge in edges:
        source, target, piece = edges[edge]
        told = [("say", place[1]) if (edge, at) in said else place for at, place in enumerate(piece.places())]
        changed[edge] = (source, target, Piece.of_places(plan.signs, told, piece.flushes()))
    return Plan(plan.signs, plan.width, plan.start, changed)


def cheapest_spelling(plan, marks, wished, prices):
    """The least price, copies to be said for it, and ways that show that none cheaper are enough."""
    _check(plan, marks, wished, prices)
    lines = sign_lines(plan)
    sources = [slot_name(state, slot) for state, slot in marks]
    sinks = [place_name(edge, index) for edge, index in wished]
    between = _between(lines, sources, sinks)
    nodes = {name: None if is_slot(name) else _price(prices, told_place(name)) for name in between}
    kept = [(one, other) for one, other in lines if one in nodes and other in nodes]
    sources = [name for name in sources if name in nodes]
    sinks = [name for name in sinks if name in nodes]
    price, flow, cut = greatest_flow(nodes, kept, sources, sinks)
    ways = []
    for amount, names in flow:
        mark, path, steps = told_way(lines, names)
        ways.append((amount, mark, path, steps))
    return price, sorted([told_place(name) for name in cut]), ways


def is_spelling(plan, marks, wished, prices, thing):
    """Whether any value tells copies that are enough, and ways that show that none cheaper are."""
    _check(plan, marks, wished, prices)
    if not isinstance(thing, tuple) or len(thing) != 3:
        return False
    price, places, ways = thing
    if not is_integer(price) or not _are_places(plan, places) or not isinstance(ways, list):
        return False
    if price != sum([_price(prices, place) for place in places]):
        return False
    trails = Trails(with_says(plan, places))
    spoilt = trails.spoilt(trails.hanging(marks))
    if any([place in spoilt for place in wished]):
        return False
    judge = Judge(plan, marks, wished)
    if not all([judge.is_way(way) for way in ways]) or price != sum([way[0] for way in ways]):
        return False
    return _are_borne(prices, ways)


class Judge:
    """Tells which values are ways from marks to wished places."""

    def __init__(self, plan, marks, wished):
        self._plan = plan
        self._marks = {mark: True for mark in marks}
        self._wished = {place: True for place in wished}
        self._copies = _copies(plan)

    def is_way(self, thing):
        """Whether any value is a way."""
        if not isinstance(thing, tuple) or len(thing) != 4:
            return False
        amount, mark, path, steps = thing
        if not is_integer(amount) or amount < 1 or not is_spot(mark) or mark not in self._marks:
            return False
        if not is_path(self._plan, mark[0], path) or not isinstance(steps, list) or len(steps) == 0:
            return False
        return self._leads_on(mark[1], path, steps)

    def _leads_on(self, slot, path, steps):
        """Whether the steps copy the sign of a slot ahead of a path, one after another, up to a wished place."""
        begins = [0]
        for edge in path:
            begins.append(begins[-1] + len(self._plan[edge][2]))
        at = -slot
        for step in steps:
            if not isinstance(step, tuple) or len(step) != 2 or not is_within(step[0], 0, len(path) - 1):
                return False
            place = (path[step[0]], step[1])
            if not is_spot(place) or place not in self._copies:
                return False
            here = begins[step[0]] + step[1]
            if here - self._copies[place] != at:
                return False
            at = here
        return steps[-1][0] == len(path) - 1 and (path[-1], steps[-1][1]) in self._wished


def _check(plan, marks, wished, prices):
    """Raise the errors of what is passed, in their order."""
    check_sound(plan)
    check_reached(plan, [state for state, _ in marks], [edge for edge, _ in wished] + sorted(prices))
    for edge, index in wished:
        if not 0 <= index < len(plan[edge][2]):
            raise NoPlace(edge, index)


def _copies(plan):
    """A dict from the places of edges that the plan has, so far as they are copies, to their distances."""
    found = {}
    for edge in plan.used():
        for index, (kind, told) in enumerate(plan[edge][2].places()):
            if kind == "copy":
                found[edge, index] = told
    return found


def _price(prices, place):
    return prices.get(place[0], 1)


def _between(lines, sources, sinks):
    """The names that stand on ways from the sources to the sinks."""
    onward = {}
    back = {}
    for one, other in lines:
        onward.setdefault(one, []).append((None, other))
        back.setdefault(other, []).append((None, one))
    come_to = leads_from(sources, lambda name: onward.get(name, []))
    ends = [name for name in sinks if name in come_to]
    return [name for name in leads_from(ends, lambda name: back.get(name, [])) if name in come_to]


def _are_places(plan, thing):
    """Whether any value is an ascending list of different copies."""
    copies = _copies(plan)
    if not isinstance(thing, list) or not all([is_spot(place) and place in copies for place in thing]):
        return False
    return all([one < other for one, other in zip(thing, thing[1:])])


def _are_borne(prices, ways):
    """Whether no place stands on ways of greater amounts, together, than its price."""
    loads = {}
    for amount, _, path, steps in ways:
        for at, index in steps:
            place = (path[at], index)
            loads[place] = loads.get(place, 0) + amount
    return all([loads[place] <= _price(prices, place) for place in loads])
