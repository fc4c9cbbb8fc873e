"""Counts: how many signs are kept and written behind all rows, and where a reader can be refused."""

from windowcuts.errors import NoPlace
from windowcuts.kinds import is_within
from windowcuts.leads import leads_from, way_to


def least_kept(plan):
    """For each state that the plan comes to, the least number of signs that a reader keeps there."""
    return _least(kept_leads(plan, plan.start, 0))


def least_written(plan):
    """For each state that the plan comes to, the least number of signs of a text, at most the width."""
    return _least(_written_leads(plan))


def unsound(plan):
    """The places of all edges that the plan has at which a reader is refused on some row, ascending."""
    kept, written = least_kept(plan), least_written(plan)
    found = []
    for edge in plan.used():
        source, _, piece = plan[edge]
        found.extend([(edge, index) for index in refused_places(piece, kept[source], written[source])])
    return found


def refused_row(plan, edge, index):
    """A row with the fewest edges that ends with an edge and is refused at this place of it, or None."""
    source, _, piece = plan[edge]
    if not 0 <= index < len(piece):
        raise NoPlace(edge, index)
    # A copy hangs on what is kept, a say on what is written; the other is taken to be enough.
    is_say = piece.places()[index][0] == "say"
    leads = _written_leads(plan) if is_say else kept_leads(plan, plan.start, 0)
    for node in leads:
        state, number = node
        kept, written = (plan.width, number) if is_say else (number, plan.width)
        if state == source and index in refused_places(piece, kept, written):
            return way_to(leads, node)[1] + [edge]
    return None


def is_kept_paper(plan, thing):
    """Whether any value is a dict of numbers of which none is greater than the least kept one."""
    states = plan.reached()
    if not isinstance(thing, dict) or len(thing) != len(states):
        return False
    if not all([isinstance(state, str) and state in states for state in thing]):
        return False
    if not all([is_within(thing[state], 0, plan.width) for state in states]) or thing[plan.start] != 0:
        return False
    for edge in plan.used():
        source, target, piece = plan[edge]
        if thing[target] > kept_behind(plan.width, thing[source], piece):
            return False
    return True


def kept_leads(plan, state, kept):
    """The fewest edges to states and numbers of kept signs, for a reader that keeps so many at a state."""
    flushes = {edge: _last_flush(plan[edge][2]) for edge in plan.edges()}
    return _number_leads(plan, (state, kept), flushes)


def kept_behind(width, kept, piece):
    """How many signs a reader keeps behind a piece, if it keeps so many ahead of it."""
    return _number_behind(width, kept, len(piece), _last_flush(piece))


def refused_places(piece, kept, written):
    """The copies and says of a piece that go back further than what is kept, or written, ahead of them."""
    numbers = kept_ahead(piece, kept)
    found = []
    for index, (kind, told) in enumerate(piece.places()):
        if (kind == "copy" and told > numbers[index]) or (kind == "say" and told > written + index):
            found.append(index)
    return found


def kept_ahead(piece, kept):
    """How many signs stand since the last flush ahead of each place, if so many are kept ahead of the piece.

    More than the width is never kept, but no distance is greater than the width.
    """
    flushes = piece.flushes()
    numbers = []
    for index in range(len(piece)):
        if index in flushes:
            kept = 0
        numbers.append(kept)
        kept = kept + 1
    return numbers


def _written_leads(plan):
    return _number_leads(plan, (plan.start, 0), {edge: None for edge in plan.edges()})


def _number_leads(plan, first, flushes):
    """The fewest edges to tuples (state, number), the number being that of the signs since the last flush."""
    lines = {state: [] for state in plan.states()}
    edges = plan.edges()
    for edge in edges:
        source, target, piece = edges[edge]
        lines[source].append((edge, target, len(piece), flushes[edge]))
    return leads_from([first], lambda node: _onward(plan.width, lines[node[0]], node[1]))


def _onward(width, lines, number):
    """The steps along edges (edge, target, signs, last flush) from a state with so many signs."""
    return [(edge, (target, _number_behind(width, number, many, flush))) for edge, target, many, flush in lines]


def _number_behind(width, number, many, flush):
    """How many signs stand since the last flush, if so many did ahead of a piece; at most the width."""
    return min(width, number + many if flush is None else many - flush)


def _last_flush(piece):
    flushes = piece.flushes()
    return flushes[-1] if len(flushes) > 0 else None


def _least(leads):
    """For each state, ascending, its least number in tuples (state, number)."""
    least = {}
    for state, number in leads:
        least[state] = min(number, least.get(state, number))
    return {state: least[state] for state in sorted(least)}
