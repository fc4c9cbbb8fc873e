import unittest

from oddities import ODD, but
from windowcuts.kinds import is_choice, is_integer, is_name, is_signs, is_text, is_width


class Kinds(unittest.TestCase):
    def check(self, tells, good, bad):
        for thing in good:
            self.assertIs(tells(thing), True, repr(thing)[:60])
        for thing in bad:
            self.assertIs(tells(thing), False, repr(thing)[:60])

    def test_integers(self):
        good = [0, 1, -1, 13, 10 ** 40, -10 ** 40]
        self.check(is_integer, good, [True, False, None, "1", [1], (1,), b"1", {1: 1}])
        self.check(is_integer, [], [thing for thing in ODD if type(thing) is not int])

    def test_names(self):
        good = ["a", "z", "abcdefgh", "zzzzzzzz", "aa", "ba", "flush", "text", "any", "copy", "say", "ab", "abc"]
        bad = ["", "abcdefghi", "A", "aB", "a1", "a_", " a", "a ", "a\n", "-", "`", "{", ["a"], ("a",), b"a", True]
        self.check(is_name, good, bad)
        self.check(is_name, [], but(*good))

    def test_signs(self):
        good = ["ab", "az", "abcdef", "uvwxyz", "bdf", "abc", "any", "copy"]
        bad = ["", "a", "ba", "aa", "aab", "abb", "abcdefg", "aB", "a1", "a?", "ab\n", " ab", "abca", "acb"]
        self.check(is_signs, good, bad + [["a", "b"], ("a", "b"), b"ab", {"a": 1, "b": 2}])
        self.check(is_signs, [], but(*good))

    def test_widths(self):
        self.check(is_width, list(range(1, 13)), [0, 13, -1, 10 ** 20, -12, True, False, "1", [1], (1,)])
        self.check(is_width, [], but(1, 2, 12))

    def test_texts(self):
        good = ["", "a", "b", "aa", "abba", "ba" * 500, "ab", "ba"]
        bad = ["c", "abc", "a b", "a\n", "A", "?", ["a"], ("a", "b"), [], b"", b"a", None, True, {}]
        self.check(lambda thing: is_text("ab", thing), good, bad)
        self.check(lambda thing: is_text("ab", thing), [], but(*good))
        self.assertIs(is_text("abc", "cab"), True)

    def test_choices(self):
        self.check(lambda thing: is_choice("abd", thing), ["a", "b", "d", "ab", "ad", "bd", "abd"], [
            "", "c", "ba", "aa", "aab", "abb", "abc", "abdd", "da", ["a"], ("a",), b"a", None, True, {"a": 1},
        ])
        self.check(lambda thing: is_choice("ab", thing), [], but("a", "ab"))
        self.assertIs(is_choice("abcdef", "abcdef"), True)
        self.assertIs(is_choice("abcdef", "ace"), True)


if __name__ == "__main__":
    unittest.main()
