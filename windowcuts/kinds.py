"""Tells which values are integers, names, signs, widths, texts and choices."""

MOST_WIDTH = 12
MOST_LETTERS = 8
MOST_SIGNS = 6


def is_integer(thing):
    """Whether any value is an integer."""
    return isinstance(thing, int) and not isinstance(thing, bool)


def is_within(thing, least, most):
    """Whether any value is an integer from least to most."""
    return is_integer(thing) and least <= thing <= most


def is_name(thing):
    """Whether any value is a name."""
    return isinstance(thing, str) and 1 <= len(thing) <= MOST_LETTERS and _are_letters(thing)


def is_signs(thing):
    """Whether any value is signs."""
    if not isinstance(thing, str) or not 2 <= len(thing) <= MOST_SIGNS:
        return False
    return _are_letters(thing) and _ascends(thing)


def is_width(thing):
    """Whether any value is a width."""
    return is_within(thing, 1, MOST_WIDTH)


def is_text(signs, thing):
    """Whether any value is a text over signs."""
    return isinstance(thing, str) and all([sign in signs for sign in thing])


def is_choice(signs, thing):
    """Whether any value is a choice of signs."""
    if not isinstance(thing, str) or not 1 <= len(thing) <= len(signs):
        return False
    return is_text(signs, thing) and _ascends(thing)


def is_spot(thing):
    """Whether any value is a tuple of a string and an integer, as places and marks are."""
    return isinstance(thing, tuple) and len(thing) == 2 and isinstance(thing[0], str) and is_integer(thing[1])


def is_sign(choice, thing):
    """Whether any value is one sign of a choice."""
    return isinstance(thing, str) and len(thing) == 1 and thing in choice


def _are_letters(text):
    return all(["a" <= letter <= "z" for letter in text])


def _ascends(text):
    return all([one < other for one, other in zip(text, text[1:])])
