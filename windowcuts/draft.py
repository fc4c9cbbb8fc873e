"""Draft: a plan that edits change, step by step, back and again."""

from windowcuts.errors import BadEdge, Full, NoEdit, NoEntry, Nothing, TooLong, Unknown, Wrong
from windowcuts.kinds import is_name, is_width, is_within
from windowcuts.plans import MOST_EDGES, Plan, fits, is_edge

MOST_EDITS = 100


class Draft:
    """The width, the start and the edges as the edits of a log have made them of a plan."""

    def __init__(self, plan):
        if not isinstance(plan, Plan):
            raise Wrong(0)
        self._first = plan
        self._signs = plan.signs
        self._edits = []
        # What can be done again, the last one first.
        self._undone = []
        self._set_up()

    @property
    def window(self):
        """The width as it stands."""
        return self._width

    @property
    def entry(self):
        """The start as it stands."""
        return self._start

    def plan(self):
        """The plan as it stands."""
        if len(self._edges) == 0:
            raise TooLong(0)
        return Plan(self._signs, self._width, self._start, self._edges)

    def take(self, name):
        """Take out an edge, and return its tuple."""
        self._check_room(1)
        edge = self[name]
        self._edit(("take", name))
        return edge

    def widen(self, width):
        """Change the width."""
        if not is_width(width):
            raise NoEdit()
        self._check_room(1)
        self._check_fit(width, self._edges)
        self._edit(("width", width))

    def begin(self, start):
        """Change the start."""
        if not is_name(start):
            raise NoEdit()
        self._check_room(1)
        self._edit(("start", start))

    def log(self):
        """The edits that stand."""
        return list(self._edits)

    def back(self):
        """Undo the last edit, and return it."""
        if len(self._edits) == 0:
            raise Nothing()
        edit = self._edits.pop()
        self._undone.append(edit)
        self._set_up()
        return edit

    def again(self):
        """Do the edit again that was undone last, and return it."""
        if len(self._undone) == 0:
            raise Nothing()
        edit = self._undone.pop()
        self._edits.append(edit)
        self._apply(edit)
        return edit

    def past(self, many):
        """The draft behind so many edits of the log."""
        if not is_within(many, 0, len(self._edits)):
            raise NoEntry(many)
        made = Draft(self._first)
        made._edits = self._edits[:many]
        made._set_up()
        return made

    def copied(self):
        """A draft with the same, which goes on by itself."""
        made = self.past(len(self._edits))
        made._undone = list(self._undone)
        return made

    def __contains__(self, name):
        return isinstance(name, str) and name in self._edges

    def __getitem__(self, name):
        if name not in self:
            raise Unknown(name)
        return self._edges[name]

    def __setitem__(self, name, edge):
        if not is_name(name) or not is_edge(edge):
            raise NoEdit()
        self._check_room(1)
        self._check_edges({name: tuple(edge)})
        self._put(name, tuple(edge))

    def __iadd__(self, plan):
        if not isinstance(plan, Plan) or plan.signs != self._signs:
            raise NoEdit()
        self._check_room(len(plan))
        edges = plan.edges()
        self._check_edges(edges)
        for name in edges:
            self._put(name, edges[name])
        return self

    def __iter__(self):
        raise TypeError("a draft is not iterated over")

    def __eq__(self, other):
        return (
            isinstance(other, Draft) and self._signs == other._signs and self._width == other._width
            and self._start == other._start and self._edges == other._edges and self._edits == other._edits
        )

    def __len__(self):
        return len(self._edits)

    def _check_room(self, many):
        if len(self._edits) + many > MOST_EDITS:
            raise Full(MOST_EDITS)

    def _check_edges(self, edges):
        """Raise what keeps these edges from being put."""
        self._check_fit(self._width, edges)
        if len({**self._edges, **edges}) > MOST_EDGES:
            raise TooLong(MOST_EDGES)

    def _check_fit(self, width, edges):
        for name in sorted(edges):
            if not fits(self._signs, width, edges[name][2]):
                raise BadEdge(name)

    def _put(self, name, edge):
        source, target, piece = edge
        self._edit(("put", name, source, target, piece))

    def _edit(self, edit):
        """Do a new edit; what was undone cannot be done again then."""
        self._edits.append(edit)
        self._undone = []
        self._apply(edit)

    def _apply(self, edit):
        kind = edit[0]
        if kind == "put":
            self._edges[edit[1]] = edit[2:]
        elif kind == "take":
            del self._edges[edit[1]]
        elif kind == "width":
            self._width = edit[1]
        else:
            self._start = edit[1]

    def _set_up(self):
        """Do all edits that stand, from the first plan on."""
        self._width = self._first.width
        self._start = self._first.start
        self._edges = self._first.edges()
        for edit in self._edits:
            self._apply(edit)
