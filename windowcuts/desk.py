"""Desk: lines that edit a draft of a plan, or ask what holds of it."""

from windowcuts.alone import beginnings
from windowcuts.counts import unsound
from windowcuts.damage import Damage, lost_marks
from windowcuts.draft import Draft
from windowcuts.errors import NoCommand, Wrong
from windowcuts.facts import Facts
from windowcuts.kinds import is_name, is_width
from windowcuts.notation import show_plan, word_number, words_piece
from windowcuts.plans import Plan
from windowcuts.pressing import fixed_sign
from windowcuts.rows import holes, texts

# What follows a command: names (n), a width (w), an index (i), the words of a piece (p), the names of a row (r).
SHAPES = {
    "edge": "nnnp", "take": "n", "width": "w", "start": "n", "back": "", "again": "",
    "plan": "", "sound": "", "alone": "", "lost": "n", "equals": "n", "fixed": "ni", "text": "r",
}


def _plan_answer(plan, _):
    return show_plan(plan)


def _sound_answer(plan, _):
    places = unsound(plan)
    return "yes" if len(places) == 0 else _places(places)


def _alone_answer(plan, _):
    return _words(beginnings(plan))


def _lost_answer(plan, told):
    damage = Damage(plan, lost_marks(plan, told[0]))
    until = damage.until()
    late = "ever" if until is None else str(until)
    return late + " " + _places(damage.places())


def _equals_answer(plan, told):
    return _words([f"{one}={other}" for one, other in Facts(plan).equals(told[0])])


def _fixed_answer(plan, told):
    sign = fixed_sign(plan, told[0], told[1])
    return _words([]) if sign is None else sign


def _text_answer(plan, told):
    row = told[0]
    return _words(texts(plan, row, [choice[0] for choice in holes(plan, row)]))


ANSWERS = {
    "plan": _plan_answer, "sound": _sound_answer, "alone": _alone_answer, "lost": _lost_answer,
    "equals": _equals_answer, "fixed": _fixed_answer, "text": _text_answer,
}


class Desk:
    """Keeps a draft of a plan, and answers lines."""

    def __init__(self, plan):
        if not isinstance(plan, Plan):
            raise Wrong(0)
        self._signs = plan.signs
        self._draft = Draft(plan)

    def draft(self):
        """A copy of the draft, which goes on by itself."""
        return self._draft.copied()

    def execute(self, line):
        """Do what a line tells, and return the answer."""
        if not isinstance(line, str):
            raise NoCommand()
        words = line.split(" ")
        command = words[0]
        told = _told(self._signs, command, words[1:])
        if command in ANSWERS:
            answer = ANSWERS[command]
            return answer(self._draft.plan(), told)
        self._edit(command, told)
        return str(len(self._draft))

    def _edit(self, command, told):
        if command == "edge":
            self._draft[told[0]] = (told[1], told[2], told[3])
        elif command == "take":
            self._draft.take(told[0])
        elif command == "width":
            self._draft.widen(told[0])
        elif command == "start":
            self._draft.begin(told[0])
        elif command == "back":
            self._draft.back()
        else:
            self._draft.again()


def _told(signs, command, words):
    """What the words behind a command tell."""
    if command not in SHAPES:
        raise NoCommand()
    shape = SHAPES[command]
    parts = words
    if shape[-1:] in ("p", "r"):
        # The last one takes all words that are left.
        whole = len(shape) - 1
        parts = words[:whole] + [words[whole:]]
    if len(parts) != len(shape):
        raise NoCommand()
    told = [_part(signs, kind, part) for kind, part in zip(shape, parts)]
    if not all([one is not None for one in told]):
        raise NoCommand()
    return told


def _part(signs, kind, part):
    """What one word, or a list of words, tells, or None if it is none of its kind."""
    if kind == "n":
        return part if is_name(part) else None
    if kind == "p":
        return words_piece(signs, part)
    if kind == "r":
        return part if len(part) > 0 and all([is_name(word) for word in part]) else None
    number = word_number(part)
    if kind == "w":
        return number if is_width(number) else None
    return number


def _places(places):
    return _words([f"{edge}/{index}" for edge, index in places])


def _words(words):
    return " ".join(words) if len(words) > 0 else "none"
