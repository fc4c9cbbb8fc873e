"""Pieces: lists of tokens that write 1 to 40 signs together."""

from windowcuts.errors import TooLong, Unlike, Wrong
from windowcuts.kinds import is_choice, is_integer, is_sign, is_signs, is_within
from windowcuts.tokens import is_distance, is_token, size


class Piece:
    """A list of tokens over signs; it never changes."""

    MOST = 40

    def __init__(self, signs, tokens):
        if not is_signs(signs):
            raise Wrong(0)
        if not _are_tokens(signs, tokens):
            raise Wrong(1)
        self._signs = signs
        self._tokens = list(tokens)
        self._places = _places_of(tokens)

    @staticmethod
    def of_places(signs, places, flushes):
        """The merged piece of these places and flushes."""
        if not is_signs(signs):
            raise Wrong(0)
        if not _are_places(signs, places):
            raise Wrong(1)
        if not _are_flushes(flushes, len(places)):
            raise Wrong(2)
        return Piece(signs, _merged_tokens(places, flushes))

    @property
    def signs(self):
        """The signs of the piece."""
        return self._signs

    def tokens(self):
        """The list of the tokens."""
        return list(self._tokens)

    def places(self):
        """What is written at each place."""
        return list(self._places)

    def flushes(self):
        """The different numbers of signs that are written ahead of flushes."""
        found = {}
        written = 0
        for token in self._tokens:
            written = written + size(token)
            if token[0] == "flush":
                found[written] = True
        return sorted(found)

    def holes(self):
        """The choices of the holes, in order."""
        return [place[1] for place in self._places if place[0] == "hole"]

    def merged(self):
        """The piece with these places and flushes and the fewest tokens."""
        return Piece(self._signs, _merged_tokens(self._places, self.flushes()))

    def part(self, begin, end):
        """The merged piece of the places from begin on and ahead of end."""
        whole = len(self._places)
        numbers = [number for number in self.flushes() if begin <= number]
        kept = [number - begin for number in numbers if number < end or number == end == whole]
        return Piece(self._signs, _merged_tokens(self._places[begin:end], kept))

    def needs(self):
        """How many signs must be kept ahead, or None if no number is enough."""
        flush = None
        most = 0
        written = 0
        for token in self._tokens:
            if token[0] == "flush":
                flush = written
            elif token[0] == "copy" and flush is None:
                most = max(most, token[1] - written)
            elif token[0] == "copy" and token[1] > written - flush:
                return None
            written = written + size(token)
        return most

    def __add__(self, other):
        if not isinstance(other, Piece):
            return NotImplemented
        if self._signs != other._signs:
            raise Unlike()
        if len(self._places) + len(other._places) > Piece.MOST:
            raise TooLong(Piece.MOST)
        return Piece(self._signs, self._tokens + other._tokens)

    def __mul__(self, other):
        if not is_integer(other):
            return NotImplemented
        # Asked ahead of the product, which could be too long to be made.
        if len(self._places) * other > Piece.MOST:
            raise TooLong(Piece.MOST)
        return Piece(self._signs, self._tokens * other)

    def __rmul__(self, other):
        return self * other

    def __floordiv__(self, other):
        if not is_integer(other):
            return NotImplemented
        whole = len(self._places)
        return [self.part(begin, min(begin + other, whole)) for begin in range(0, whole, other)]

    def __eq__(self, other):
        return isinstance(other, Piece) and self._signs == other._signs and self._tokens == other._tokens

    def __len__(self):
        return len(self._places)

    def __repr__(self):
        return f"Piece({self._signs!r}, {self._tokens!r})"


def _are_tokens(signs, thing):
    if not isinstance(thing, list) or not all([is_token(signs, token) for token in thing]):
        return False
    return 1 <= sum([size(token) for token in thing]) <= Piece.MOST


def _are_places(signs, thing):
    if not isinstance(thing, list) or not 1 <= len(thing) <= Piece.MOST:
        return False
    return all([_is_place(signs, place) for place in thing])


def _is_place(signs, thing):
    if not isinstance(thing, tuple) or len(thing) != 2 or not isinstance(thing[0], str):
        return False
    kind, told = thing
    if kind == "sign":
        return is_sign(signs, told)
    if kind == "hole":
        return is_choice(signs, told)
    return kind in ("copy", "say") and is_distance(told)


def _are_flushes(thing, most):
    return isinstance(thing, list) and all([is_within(number, 0, most) for number in thing])


def _places_of(tokens):
    places = []
    for token in tokens:
        kind = token[0]
        if kind == "text":
            places.extend([("sign", sign) for sign in token[1]])
        elif kind == "any":
            places.append(("hole", token[1]))
        elif kind != "flush":
            places.extend([(kind, token[1])] * token[2])
    return places


def _merged_tokens(places, flushes):
    cuts = {number: True for number in flushes}
    tokens = []
    for at, place in enumerate(places):
        if at in cuts:
            tokens.append(("flush",))
        token = _token_of(place)
        if len(tokens) > 0 and _go_together(tokens[-1], token):
            tokens[-1] = _joined(tokens[-1], token)
        else:
            tokens.append(token)
    if len(places) in cuts:
        tokens.append(("flush",))
    return tokens


def _token_of(place):
    kind, told = place
    if kind == "sign":
        return ("text", told)
    if kind == "hole":
        return ("any", told)
    return (kind, told, 1)


def _go_together(one, other):
    if one[0] != other[0] or one[0] == "any":
        return False
    return one[0] == "text" or one[1] == other[1]


def _joined(one, other):
    if one[0] == "text":
        return ("text", one[1] + other[1])
    kind, distance, many = one
    return (kind, distance, many + other[2])
