"""Tokens: tuples that write signs, or flush."""

from windowcuts.kinds import is_choice, is_text, is_within

MOST_SIZE = 40
MOST_DISTANCE = 12


def is_token(signs, thing):
    """Whether any value is a token over signs."""
    if not isinstance(thing, tuple) or len(thing) == 0 or not isinstance(thing[0], str):
        return False
    kind = thing[0]
    if kind == "flush":
        return len(thing) == 1
    if kind == "text":
        return len(thing) == 2 and is_text(signs, thing[1]) and 1 <= len(thing[1]) <= MOST_SIZE
    if kind == "any":
        return len(thing) == 2 and is_choice(signs, thing[1])
    if kind == "copy" or kind == "say":
        return len(thing) == 3 and is_distance(thing[1]) and is_within(thing[2], 1, MOST_SIZE)
    return False


def is_plain(signs, thing):
    """Whether any value is a text, a copy or a flush over signs."""
    return is_token(signs, thing) and thing[0] in ("text", "copy", "flush")


def is_distance(thing):
    """Whether any value is a distance that a token may have."""
    return is_within(thing, 1, MOST_DISTANCE)


def size(token):
    """How many signs a token writes."""
    kind = token[0]
    if kind == "flush":
        return 0
    if kind == "any":
        return 1
    if kind == "text":
        return len(token[1])
    return token[2]


def cut_token(token, at):
    """The two tokens that write the first signs of a token, and the others."""
    if token[0] == "text":
        return (("text", token[1][:at]), ("text", token[1][at:]))
    kind, distance, many = token
    return ((kind, distance, at), (kind, distance, many - at))
