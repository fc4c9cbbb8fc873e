import unittest

from oddities import ODD
from windowcuts.tokens import cut_token, is_plain, is_token, size

PLAIN = [
    ("text", "a"), ("text", "ba"), ("text", "aa"), ("text", "ab" * 20), ("flush",),
    ("copy", 1, 1), ("copy", 12, 1), ("copy", 1, 40), ("copy", 12, 40), ("copy", 2, 7),
]
OTHER = [("any", "a"), ("any", "b"), ("any", "ab"), ("say", 1, 1), ("say", 12, 40), ("say", 2, 7)]
BAD = [
    (), ("text",), ("text", ""), ("text", "c"), ("text", "ab" * 20 + "a"), ("text", "a", "a"), ("text", ["a"]),
    ("text", ("a",)), ("text", b"a"), ("text", None), ("text", 1), ("text", "a "), ("text", "?"), ("text", 1, 1),
    ("any",), ("any", ""), ("any", "ba"), ("any", "aa"), ("any", "c"), ("any", "abc"), ("any", "ab", 1), ("any", ["a"]),
    ("any", ("a", "b")), ("any", None), ("any", 1, 1),
    ("flush", ""), ("flush", None), ("flush", 1), ("flush", 1, 1), ("flush", ()),
    ("other", "a"), ("Copy", 1, 1), ("copy ", 1, 1), ("", 1, 1), (None, 1, 1), (1, 1, 1), (True,), (("copy",), 1, 1),
    (["flush"],), (b"flush",), ({},), ("copy",), ("say",), "flush", "copy", ["flush"], ["text", "a"], ["copy", 1, 1],
    {"flush": 1}, {"flush"}, [("flush",)], (("flush",),),
]
BAD = BAD + [(kind, *rest) for kind in ("copy", "say") for rest in [
    (1,), (1, 1, 1), (0, 1), (13, 1), (1, 0), (1, 41), (-1, 1), (1, -1), (True, 1), (1, True), (False, 1), ("1", 1),
    (1, "1"), (None, 1), (1, None), ([1], 1), (1, (1,)), (10 ** 30, 1), (1, 10 ** 30), ("a",), ((1, 1),),
]]


class Tokens(unittest.TestCase):
    def test_tokens(self):
        for token in PLAIN + OTHER:
            self.assertIs(is_token("ab", token), True, token)
        for thing in BAD + ODD:
            self.assertIs(is_token("ab", thing), False, repr(thing)[:60])

    def test_plain_tokens(self):
        for token in PLAIN:
            self.assertIs(is_plain("ab", token), True, token)
        for thing in OTHER + BAD + ODD:
            self.assertIs(is_plain("ab", thing), False, repr(thing)[:60])

    def test_odd_parts(self):
        for thing in ODD:
            for kind in ("text", "any", "copy", "say", "flush"):
                self.assertIs(is_token("xy", (kind, thing)), False)
                self.assertIs(is_token("xy", (kind, thing, thing)), is_number(thing) and kind in ("copy", "say"))
            self.assertIs(is_token("ab", (thing,)), thing == "flush" and type(thing) is str)

    def test_signs_are_looked_at(self):
        self.assertIs(is_token("abc", ("text", "c")), True)
        self.assertIs(is_token("bc", ("text", "a")), False)
        self.assertIs(is_token("abc", ("any", "ac")), True)
        self.assertIs(is_token("bc", ("any", "ac")), False)

    def test_sizes(self):
        for token, many in [
            (("flush",), 0), (("text", "a"), 1), (("text", "ab" * 20), 40), (("any", "a"), 1), (("any", "ab"), 1),
            (("copy", 12, 1), 1), (("copy", 1, 40), 40), (("say", 12, 1), 1), (("say", 1, 40), 40),
        ]:
            self.assertEqual(size(token), many)

    def test_cuts(self):
        for token in [("text", "abbaabab"), ("text", "ba"), ("text", "ab" * 20)]:
            for at in range(1, size(token)):
                self.assertEqual(cut_token(token, at), (("text", token[1][:at]), ("text", token[1][at:])))
        for kind in ("copy", "say"):
            for distance in (1, 2, 12):
                for many in (2, 3, 12, 40):
                    for at in range(1, many):
                        parts = ((kind, distance, at), (kind, distance, many - at))
                        self.assertEqual(cut_token((kind, distance, many), at), parts)

    def test_cuts_write_the_same(self):
        for token in [("text", "abba"), ("copy", 1, 9), ("copy", 3, 8), ("copy", 5, 4), ("say", 2, 5)]:
            for at in range(1, size(token)):
                self.assertEqual(written("abbab", cut_token(token, at)), written("abbab", [token]))


def is_number(thing):
    return type(thing) is int and 1 <= thing <= 12


def written(line, tokens):
    for token in tokens:
        if token[0] == "text":
            line = line + token[1]
        else:
            for _ in range(token[2]):
                line = line + line[-token[1]]
    return line


if __name__ == "__main__":
    unittest.main()
