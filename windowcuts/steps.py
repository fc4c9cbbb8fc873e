"""Steps: edges as they lead signs from the slots of one state into those of another."""

from windowcuts.frames import Frame


class Step:
    """An edge, the roots of the slots behind it, and the choices of its holes."""

    def __init__(self, edge, source, target, origins, choices):
        self.edge = edge
        self.source = source
        self.target = target
        self.origins = origins
        self.choices = choices


def plan_steps(plan):
    """The steps of the edges that a plan has, ascending."""
    steps = []
    for edge in plan.used():
        source, target, piece = plan[edge]
        steps.append(step_along(edge, source, target, piece, plan.width))
    return steps


def step_along(edge, source, target, piece, width):
    """The step of an edge with a piece, for so many slots."""
    frame = Frame(width) << piece
    return Step(edge, source, target, frame.roots(), frame.holes())


def told_signs(root, choices):
    """The signs that a text or a hole can have."""
    kind, told = root
    return told if kind == "sign" else choices[told]


def wanted_signs(root, sign):
    """What a root asks of the holes to have a sign: a dict from indexes of holes to signs."""
    return {root[1]: sign} if root[0] == "hole" else {}


def unlike_signs(one, ones, other, others):
    """What two roots that can have these signs ask of the holes to be unlike, or None if they never are."""
    if one == other:
        return None
    for sign in ones:
        for against in others:
            if sign != against:
                wanted, more = wanted_signs(one, sign), wanted_signs(other, against)
                return {**wanted, **more}
    return None


def wanted_fill(choices, wanted):
    """A fill of holes with the wanted signs, and with first signs elsewhere."""
    return [wanted.get(index, choice[0]) for index, choice in enumerate(choices)]
