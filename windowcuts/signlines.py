"""Sign lines: the steps by which a sign gets from a slot or a copied place to the next one.

Slots and places have names of their own here: a slot is "state 3", a place "edge/3".
"""


def slot_name(state, slot):
    """The name of a slot."""
    return f"{state} {slot}"


def place_name(edge, index):
    """The name of a place."""
    return f"{edge}/{index}"


def told_slot(name):
    """The tuple (state, slot) of the name of a slot."""
    state, slot = name.split(" ")
    return state, int(slot)


def told_place(name):
    """The tuple (edge, index) of the name of a place."""
    edge, index = name.split("/")
    return edge, int(index)


def is_slot(name):
    """Whether a name is that of a slot."""
    return " " in name


def sign_lines(plan):
    """A dict from tuples (name, name), one step each, to the first edge along which the sign gets on so."""
    lines = {}
    for edge in plan.used():
        source, target, piece = plan[edge]
        for index, (kind, told) in enumerate(piece.places()):
            if kind == "copy":
                lines.setdefault((_name_back(source, edge, index, told), place_name(edge, index)), edge)
        for slot in range(1, plan.width + 1):
            lines.setdefault((_name_back(source, edge, len(piece), slot), slot_name(target, slot)), edge)
    return lines


def _name_back(source, edge, index, distance):
    """What stands so far back ahead of a place: a place of the same edge, or a slot of its source."""
    if distance <= index:
        return place_name(edge, index - distance)
    return slot_name(source, distance - index)


def told_way(lines, names):
    """The tuple (mark, path, steps) of a way from a slot along lines to a place."""
    path = []
    steps = []
    for ahead, name in zip(names, names[1:]):
        if not is_slot(name):
            edge, index = told_place(name)
            if is_slot(ahead):
                path.append(edge)
            steps.append((len(path) - 1, index))
        elif is_slot(ahead):
            path.append(lines[ahead, name])
    return told_slot(names[0]), path, steps
