"""Plans: graphs whose edges carry pieces."""

from windowcuts.errors import BadEdge, Clash, TooLong, Unknown, Unlike, Wrong
from windowcuts.kinds import is_name, is_signs, is_width
from windowcuts.pieces import Piece

MOST_EDGES = 16


class Plan:
    """A start state, and named edges from states to states with pieces; it never changes."""

    def __init__(self, signs, width, start, edges):
        if not is_signs(signs):
            raise Wrong(0)
        if not is_width(width):
            raise Wrong(1)
        if not is_name(start):
            raise Wrong(2)
        if not _are_edges(edges):
            raise Wrong(3)
        for name in sorted(edges):
            if not fits(signs, width, edges[name][2]):
                raise BadEdge(name)
        self._signs = signs
        self._width = width
        self._start = start
        self._edges = {name: tuple(edges[name]) for name in sorted(edges)}

    @property
    def signs(self):
        """The signs of the plan."""
        return self._signs

    @property
    def width(self):
        """How many signs a reader keeps."""
        return self._width

    @property
    def start(self):
        """The state from which rows lead."""
        return self._start

    def edges(self):
        """A dict from the names of the edges to tuples (source, target, piece)."""
        return dict(self._edges)

    def states(self):
        """All states, ascending."""
        found = {self._start: True}
        for name in self._edges:
            source, target, _ = self._edges[name]
            found[source] = True
            found[target] = True
        return sorted(found)

    def out(self, state):
        """The edges that lead from a state, ascending."""
        if state not in self.states():
            raise Unknown(state)
        return [name for name in self._edges if self._edges[name][0] == state]

    def reached(self):
        """The states to which a row leads, ascending."""
        found = {self._start: True}
        fresh = [self._start]
        while len(fresh) > 0:
            state = fresh.pop()
            for name in self.out(state):
                target = self._edges[name][1]
                if target not in found:
                    found[target] = True
                    fresh.append(target)
        return sorted(found)

    def used(self):
        """The edges that are on a row, ascending."""
        reached = self.reached()
        return [name for name in self._edges if self._edges[name][0] in reached]

    def changed(self, name, source, target, piece):
        """The plan with this edge in the place of what it had under the name."""
        for place, thing in enumerate([name, source, target]):
            if not is_name(thing):
                raise Wrong(place)
        if not isinstance(piece, Piece):
            raise Wrong(3)
        if not fits(self._signs, self._width, piece):
            raise BadEdge(name)
        edges = self.edges()
        edges[name] = (source, target, piece)
        return self._with_edges(edges)

    def without(self, name):
        """The plan without an edge."""
        if name not in self._edges:
            raise Unknown(name)
        edges = self.edges()
        del edges[name]
        return self._with_edges(edges)

    def __or__(self, other):
        self._meet(other)
        return self._with_edges({**self._edges, **other._edges})

    def __and__(self, other):
        self._meet(other)
        return self._with_edges({name: self._edges[name] for name in self._edges if name in other._edges})

    def __eq__(self, other):
        return (
            isinstance(other, Plan) and self._signs == other._signs and self._width == other._width
            and self._start == other._start and self._edges == other._edges
        )

    def __len__(self):
        return len(self._edges)

    def __contains__(self, name):
        return isinstance(name, str) and name in self._edges

    def __getitem__(self, name):
        if name not in self:
            raise Unknown(name)
        return self._edges[name]

    def __iter__(self):
        raise TypeError("a plan is not iterated over")

    def _with_edges(self, edges):
        if len(edges) > MOST_EDGES:
            raise TooLong(MOST_EDGES)
        if len(edges) == 0:
            raise TooLong(0)
        return Plan(self._signs, self._width, self._start, edges)

    def _meet(self, other):
        """Raise what keeps two plans from being put together."""
        if self._signs != other._signs or self._width != other._width or self._start != other._start:
            raise Unlike()
        for name in self._edges:
            if name in other._edges and self._edges[name] != other._edges[name]:
                raise Clash(name)


def is_edge(thing):
    """Whether any value is an edge: two states and a piece."""
    if not isinstance(thing, (tuple, list)) or len(thing) != 3:
        return False
    return is_name(thing[0]) and is_name(thing[1]) and isinstance(thing[2], Piece)


def fits(signs, width, piece):
    """Whether a piece can stand in a plan with these signs and this width."""
    if piece.signs != signs:
        return False
    return all([kind in ("sign", "hole") or told <= width for kind, told in piece.places()])


def _are_edges(thing):
    if not isinstance(thing, dict) or not 1 <= len(thing) <= MOST_EDGES:
        return False
    return all([is_name(name) and is_edge(thing[name]) for name in thing])
