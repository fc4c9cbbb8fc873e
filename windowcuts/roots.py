"""Roots: from where the sign of each place of a piece comes."""


def text_roots(piece):
    """The root of each place through copies and says: a sign, a hole or a slot ahead of the piece."""
    roots = []
    many = 0
    for kind, told in piece.places():
        if kind == "sign":
            roots.append(("sign", told))
        elif kind == "hole":
            roots.append(("hole", many))
            many = many + 1
        else:
            roots.append(_root_back(roots, told))
    return roots


def reader_roots(piece):
    """The root of each place through copies alone: a place of the piece or a slot ahead of it."""
    roots = []
    for index, (kind, told) in enumerate(piece.places()):
        if kind == "copy":
            roots.append(_root_back(roots, told))
        else:
            roots.append(("place", index))
    return roots


def _root_back(roots, distance):
    """The root of the sign so far back behind these."""
    if distance <= len(roots):
        return roots[-distance]
    return ("slot", distance - len(roots))
