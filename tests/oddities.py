"""Values of every kind, for parameters that accept any value."""


def nested(depth, make):
    thing = make(["a"])
    for _ in range(depth - 1):
        thing = make([thing])
    return thing


class Sly:
    """Is equal to everything."""

    def __eq__(self, other):
        return True

    __hash__ = None


ODD = [
    True, False, None, 0, 1, 2, 12, 13, 40, 41, -1, 10 ** 30, -10 ** 30,
    "", "a", "ab", "ba", "aa", "abc", "A", "a b", "\n", "?", "flush", "text", "any", "copy", "say", "x" * 100000,
    b"", b"ab", [], ["a"], ["ab"], [["a"]], (), ("a",), ("a", "b"), {}, {"a": 1}, {1: "a"}, {("a",): None}, {"a", "b"},
    frozenset("ab"), object(), Sly(), int, len, range(3),
    nested(20, list), nested(20, tuple), ["a"] * 19999, tuple(["a"] * 19999), [[]] * 9999,
]


def but(*good):
    """The odd values without those which are good: the same, and of the same kind."""
    return [thing for thing in ODD if not any(type(thing) is type(one) and thing == one for one in good)]
