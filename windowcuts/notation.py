"""Notation: pieces, plans and rows as texts, and read from texts."""

from windowcuts.errors import NoText
from windowcuts.kinds import is_name, is_signs, is_width
from windowcuts.pieces import Piece
from windowcuts.plans import MOST_EDGES, Plan, fits
from windowcuts.tokens import is_token, size

MOST_DIGITS = 3
NO_NAMES = "-"


def show_piece(piece):
    """The text of a piece: a word for each token."""
    return " ".join([_word(token) for token in piece.tokens()])


def show_plan(plan):
    """The text of a plan: a line for the plan, and one for each edge."""
    lines = [f"plan {plan.signs} {plan.width} {plan.start}"]
    edges = plan.edges()
    for name in edges:
        source, target, piece = edges[name]
        lines.append(f"edge {name} {source} {target} {show_piece(piece)}")
    return "".join([line + "\n" for line in lines])


def show_row(names):
    """The text of a list of names."""
    return " ".join(names) if len(names) > 0 else NO_NAMES


def read_piece(signs, text):
    """The piece that a text of one line tells."""
    piece = words_piece(signs, _only_line(text))
    if piece is None:
        raise NoText(1)
    _check_one_line(text)
    return piece


def read_row(text):
    """The list of names that a text of one line tells."""
    words = _only_line(text)
    names = [] if words == [NO_NAMES] else words
    if not all([is_name(word) for word in names]):
        raise NoText(1)
    _check_one_line(text)
    return names


def read_plan(text):
    """The plan that a text tells."""
    _check_string(text)
    lines = text.split("\n")
    # What stands behind the last line feed is no line, and must be empty.
    last = lines.pop()
    told = _plan_line(lines[0].split(" ")) if len(lines) > 0 else None
    if told is None:
        raise NoText(1)
    signs, width, start = told
    edges = {}
    ahead = ""
    for at, line in enumerate(lines[1:]):
        edge = _edge_line(signs, width, line.split(" "))
        if edge is None or edge[0] <= ahead or len(edges) == MOST_EDGES:
            raise NoText(at + 2)
        ahead, source, target, piece = edge
        edges[ahead] = (source, target, piece)
    if last != "" or len(edges) == 0:
        raise NoText(len(lines) + 1)
    return Plan(signs, width, start, edges)


def word_number(word):
    """The number that a word tells in at most three decimal digits, or None."""
    if not 1 <= len(word) <= MOST_DIGITS or not all(["0" <= digit <= "9" for digit in word]):
        return None
    return None if len(word) > 1 and word[0] == "0" else int(word)


def words_piece(signs, words):
    """The piece over signs that words tell, or None."""
    tokens = [_word_token(signs, word) for word in words]
    if not all([token is not None for token in tokens]):
        return None
    return Piece(signs, tokens) if 1 <= sum([size(token) for token in tokens]) <= Piece.MOST else None


def _word(token):
    kind = token[0]
    if kind == "flush":
        return "!"
    if kind == "text":
        return "=" + token[1]
    if kind == "any":
        return "?" + token[1]
    letter = "c" if kind == "copy" else "s"
    return f"{letter}{token[1]}.{token[2]}"


def _word_token(signs, word):
    """The token over signs that a word tells, or None."""
    token = _any_token(word[:1], word[1:])
    return token if is_token(signs, token) else None


def _any_token(begin, told):
    if begin == "=":
        return ("text", told)
    if begin == "?":
        return ("any", told)
    if begin == "!" and told == "":
        return ("flush",)
    numbers = [word_number(word) for word in told.split(".")]
    if begin not in ("c", "s") or len(numbers) != 2:
        return None
    return ("copy" if begin == "c" else "say", numbers[0], numbers[1])


def _plan_line(words):
    """The signs, the width and the start that a line tells, or None."""
    if len(words) != 4 or words[0] != "plan":
        return None
    signs, width, start = words[1], word_number(words[2]), words[3]
    return (signs, width, start) if is_signs(signs) and is_width(width) and is_name(start) else None


def _edge_line(signs, width, words):
    """The name, the states and the piece that a line tells, or None."""
    if words[0] != "edge" or not all([is_name(word) for word in words[1:4]]):
        return None
    piece = words_piece(signs, words[4:])
    if piece is None or not fits(signs, width, piece):
        return None
    return words[1], words[2], words[3], piece


def _check_string(thing):
    if not isinstance(thing, str):
        raise NoText(0)


def _only_line(text):
    """The words of the first line."""
    _check_string(text)
    return text.split("\n")[0].split(" ")


def _check_one_line(text):
    if "\n" in text:
        raise NoText(2)
