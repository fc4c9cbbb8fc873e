"""Rows of plans: their holes, their texts and their streams."""

from windowcuts.errors import NoFill, NoRow, Short
from windowcuts.kinds import is_sign


class RowPen:
    """Writes the tokens of a row, one after another, with the signs of a fill."""

    def __init__(self, fill):
        self._fill = list(fill)
        self._filled = 0
        self._line = []
        self._flushed = 0

    def put(self, token):
        """Write a token, and return the plain token that the stream carries for it."""
        kind = token[0]
        if kind == "flush":
            self._flushed = len(self._line)
            return token
        if kind == "text":
            self._line.extend(list(token[1]))
            return token
        if kind == "any":
            sign = self._fill[self._filled]
            self._filled = self._filled + 1
            self._line.append(sign)
            return ("text", sign)
        # A reader keeps no more than the width, but no distance is greater than this.
        begin = self._flushed if kind == "copy" else 0
        text = self._again(token[1], token[2], begin)
        return token if kind == "copy" else ("text", text)

    def _again(self, distance, many, begin):
        ahead = len(self._line) - begin
        if distance > ahead:
            raise Short(distance, ahead)
        for _ in range(many):
            self._line.append(self._line[-distance])
        return "".join(self._line[-many:])

    def text_from(self, at):
        """What is written from an index on."""
        return "".join(self._line[at:])

    def many(self):
        """How many signs are written."""
        return len(self._line)


def is_row(plan, thing):
    """Whether any value is a row of the plan."""
    return is_path(plan, plan.start, thing)


def is_path(plan, state, thing):
    """Whether any value is a list that is a path from a state."""
    return isinstance(thing, list) and _many_on(plan, state, thing) == len(thing)


def state_behind(plan, names):
    """The state to which a row leads."""
    return path_end(plan, plan.start, names)


def holes(plan, names):
    """The choices of the holes of a row."""
    check_path(plan, plan.start, names)
    return path_holes(plan, names)


def path_end(plan, state, names):
    """The state to which a path from a state leads, if the names are one."""
    check_path(plan, state, names)
    if len(names) == 0:
        return state
    return plan[names[-1]][1]


def path_holes(plan, names):
    """The choices of the holes of these edges."""
    found = []
    for name in names:
        found.extend(plan[name][2].holes())
    return found


def texts(plan, names, fill):
    """The texts of the pieces of a row, with a fill."""
    return [text for text, _ in _written_row(plan, names, fill)]


def stream(plan, names, fill):
    """The blocks of plain tokens of a row, with a fill."""
    return [block for _, block in _written_row(plan, names, fill)]


def rows_upto(plan, most):
    """All rows with at most so many edges, the shorter ones first."""
    lines = _lines_from(plan)
    # able[k] has the states from which a path with k edges leads.
    able = [{state: True for state in lines}]
    for many in range(most + 1):
        paths = [(plan.start, [])]
        while len(paths) > 0:
            state, names = paths.pop()
            left = many - len(names)
            if left == 0:
                yield names
            else:
                onward = [line for line in lines[state] if line[1] in able[left - 1]]
                paths.extend([(target, names + [name]) for name, target in onward])
        able.append(_able_once_more(lines, able[many]))


def _written_row(plan, names, fill):
    """For each edge of a row, the text of its piece, and its block."""
    _check_fill(holes(plan, names), fill)
    pen = RowPen(fill)
    written = []
    for name in names:
        begin = pen.many()
        block = []
        for token in plan[name][2].tokens():
            block.append(pen.put(token))
        written.append((pen.text_from(begin), block))
    return written


def _lines_from(plan):
    """For each state, the edges from it and their targets, the last one first."""
    lines = {}
    for state in plan.states():
        names = sorted(plan.out(state), reverse=True)
        lines[state] = [(name, plan[name][1]) for name in names]
    return lines


def _able_once_more(lines, able):
    return {state: True for state in lines if any([target in able for _, target in lines[state]])}


def check_path(plan, state, names):
    """Raise NoRow for the least index at which no edge leads on from a state."""
    at = _many_on(plan, state, names)
    if at < len(names):
        raise NoRow(at)


def _many_on(plan, state, names):
    """How many names, from the first one on, are a path from a state."""
    for at, name in enumerate(names):
        if name not in plan:
            return at
        source, target, _ = plan[name]
        if source != state:
            return at
        state = target
    return len(names)


def _check_fill(choices, fill):
    for at, choice in enumerate(choices):
        if at >= len(fill) or not is_sign(choice, fill[at]):
            raise NoFill(at)
    if len(fill) > len(choices):
        raise NoFill(len(choices))
