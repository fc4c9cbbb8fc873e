"""Frames: what stands in slots behind pieces, by what stood in them ahead."""

from windowcuts.errors import NoEntry, TooFar, Wrong
from windowcuts.kinds import is_width, is_within
from windowcuts.roots import text_roots


class Frame:
    """The roots of all slots behind some pieces; it never changes."""

    def __init__(self, width):
        if not is_width(width):
            raise Wrong(0)
        self._roots = [("slot", slot) for slot in range(1, width + 1)]
        self._holes = []

    def roots(self):
        """The roots of all slots, from slot 1 on."""
        return list(self._roots)

    def holes(self):
        """The choices of all holes of the pieces, in order."""
        return list(self._holes)

    def root_here(self, root):
        """The root, by what stood ahead of all pieces, of a text root of a piece that comes behind them."""
        kind, told = root
        if kind == "slot":
            return self._roots[told - 1]
        if kind == "hole":
            return ("hole", told + len(self._holes))
        return root

    def __lshift__(self, piece):
        width = len(self._roots)
        for kind, told in piece.places():
            if kind in ("copy", "say") and told > width:
                raise TooFar(told)
        written = [self.root_here(root) for root in text_roots(piece)]
        made = Frame(width)
        made._roots = (written[::-1] + self._roots)[:width]
        made._holes = self._holes + piece.holes()
        return made

    def __getitem__(self, at):
        if not is_within(at, 1, len(self._roots)):
            raise NoEntry(at)
        return self._roots[at - 1]

    def __iter__(self):
        raise TypeError("a frame is not iterated over")

    def __eq__(self, other):
        return isinstance(other, Frame) and self._roots == other._roots and self._holes == other._holes

    def __len__(self):
        return len(self._roots)
