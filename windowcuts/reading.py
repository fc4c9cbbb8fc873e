"""A reader of plain tokens, which looks back into a window of a fixed width."""

from windowcuts.errors import NoToken, Short, Wrong
from windowcuts.kinds import is_signs, is_width
from windowcuts.tokens import is_plain

MARK = "?"


class Reader:
    """Reads plain tokens over signs, and keeps the last signs since its last flush."""

    def __init__(self, signs, width):
        if not is_signs(signs):
            raise Wrong(0)
        if not is_width(width):
            raise Wrong(1)
        self._signs = signs
        self._width = width
        self._written = []
        self._kept = ""

    def read(self, token):
        """Write the signs of a token, and return them."""
        text, kept = self._told(token, self._kept)
        return self._put(text, kept)

    def __call__(self, token):
        return self.read(token)

    def read_all(self, tokens):
        """Write the signs of all tokens, or nothing if one of them is refused."""
        texts = []
        kept = self._kept
        for token in tokens:
            text, kept = self._told(token, kept)
            texts.append(text)
        return self._put("".join(texts), kept)

    def lost(self, many):
        """Write so many marks, and return them."""
        marks = MARK * many
        return self._put(marks, self._last(self._kept + marks))

    def written(self):
        """All that was written."""
        return "".join(self._written)

    def kept(self):
        """The signs that are kept, the last one at the end."""
        return self._kept

    def copied(self):
        """A reader with the same, which goes on by itself."""
        other = Reader(self._signs, self._width)
        other._written = list(self._written)
        other._kept = self._kept
        return other

    def __len__(self):
        return len(self._written)

    def _put(self, text, kept):
        self._written.extend(list(text))
        self._kept = kept
        return text

    def _told(self, token, kept):
        """The signs of a token behind what is kept, and what is kept then."""
        if not is_plain(self._signs, token):
            raise NoToken()
        if token[0] == "flush":
            return "", ""
        if token[0] == "text":
            return token[1], self._last(kept + token[1])
        text = self._copy(token[1], token[2], kept)
        return text, self._last(kept + text)

    def _copy(self, distance, many, kept):
        if distance > self._width:
            raise NoToken()
        if distance > len(kept):
            raise Short(distance, len(kept))
        # A copy goes on in what it writes, so it repeats the last signs.
        ring = kept[-distance:]
        return (ring * many)[:many]

    def _last(self, line):
        return line[-self._width:]
