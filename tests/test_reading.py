import random
import unittest

from oddities import ODD, but
from windowcuts.errors import NoToken, Short, Wrong
from windowcuts.reading import Reader

FLUSH = ("flush",)


def state(reader):
    return reader.written(), reader.kept(), len(reader)


class Making(unittest.TestCase):
    def wrong(self, place, *arguments):
        with self.assertRaises(Wrong) as caught:
            Reader(*arguments)
        self.assertEqual(caught.exception.place, place, repr(arguments)[:60])

    def test_wrong_signs_first(self):
        for thing in but("ab", "abc", "any", "copy"):
            self.wrong(0, thing, 3)
            self.wrong(0, thing, 0)

    def test_wrong_width(self):
        for thing in but(1, 2, 12):
            self.wrong(1, "ab", thing)

    def test_new(self):
        for width in range(1, 13):
            self.assertEqual(state(Reader("ab", width)), ("", "", 0))


class Reading(unittest.TestCase):
    def no_token(self, reader, thing):
        before = state(reader)
        for call in (reader.read, reader, lambda it: reader.read_all([it]), lambda it: reader.read_all([FLUSH, it])):
            with self.assertRaises(NoToken):
                call(thing)
        self.assertEqual(state(reader), before)

    def short(self, reader, token, ahead):
        before = state(reader)
        for call in (reader.read, reader, lambda it: reader.read_all([it])):
            with self.assertRaises(Short) as caught:
                call(token)
            self.assertEqual((caught.exception.distance, caught.exception.ahead), (token[1], ahead))
        self.assertEqual(state(reader), before)

    def test_texts_and_copies(self):
        reader = Reader("abc", 4)
        self.assertEqual(reader.read(("text", "ab")), "ab")
        self.assertEqual(reader.read(("copy", 2, 1)), "a")
        self.assertEqual(reader.read(("copy", 1, 2)), "aa")
        self.assertEqual(reader.read(("text", "c")), "c")
        self.assertEqual(reader.read(("copy", 4, 6)), "aaacaa")
        self.assertEqual(state(reader), ("abaaacaaacaa", "acaa", 12))

    def test_copies_go_on_in_what_they_write(self):
        for distance in range(1, 13):
            for many in range(1, 41):
                reader = Reader("abcdef", 12)
                line = "abcdefabacad"
                reader.read(("text", line))
                for _ in range(many):
                    line = line + line[-distance]
                self.assertEqual(reader.read(("copy", distance, many)), line[12:])
                self.assertEqual(state(reader), (line, line[-12:], 12 + many))

    def test_signs_that_spell_kinds(self):
        reader = Reader("fhlsu", 5)
        self.assertEqual(reader.read_all([("text", "flush"), ("copy", 5, 5)]), "flushflush")
        self.assertEqual(reader.kept(), "flush")

    def test_called_reader(self):
        one, other = Reader("ab", 3), Reader("ab", 3)
        for token in [("text", "ab"), ("copy", 2, 5), FLUSH, ("text", "b"), ("copy", 1, 4)]:
            self.assertEqual(one(token), other.read(token))
            self.assertEqual(state(one), state(other))

    def test_no_tokens(self):
        reader = Reader("ab", 3)
        reader.read(("text", "abaab"))
        for thing in ODD + [
            ("any", "ab"), ("say", 1, 1), ("text", ""), ("text", "c"), ("text", "?"), ("text", "a" * 41), ("copy", 4, 1),
            ("copy", 12, 1), ("copy", 13, 1), ("copy", 0, 1), ("copy", 1, 0), ("copy", 1, 41), ("copy", True, 1),
            ["flush"], ["copy", 1, 1], ("flush", 0), ("copy", 1), (),
        ]:
            self.no_token(reader, thing)

    def test_too_far_is_no_token_ahead_of_short(self):
        self.no_token(Reader("ab", 3), ("copy", 4, 1))
        self.short(Reader("ab", 3), ("copy", 3, 1), 0)

    def test_short(self):
        reader = Reader("ab", 4)
        self.short(reader, ("copy", 1, 1), 0)
        reader.read(("text", "ab"))
        self.short(reader, ("copy", 3, 9), 2)
        self.assertEqual(reader.read(("copy", 2, 1)), "a")
        self.short(reader, ("copy", 4, 9), 3)
        self.assertEqual(reader.read(("copy", 3, 1)), "a")
        self.assertEqual(reader.read(("copy", 4, 1)), "a")

    def test_window_and_flush(self):
        reader = Reader("ab", 2)
        reader.read(("text", "abb"))
        self.assertEqual(reader.kept(), "bb")
        self.assertEqual(reader.read(FLUSH), "")
        self.assertEqual(state(reader), ("abb", "", 3))
        self.short(reader, ("copy", 1, 1), 0)
        reader.read(("text", "a"))
        self.short(reader, ("copy", 2, 1), 1)
        self.assertEqual(reader.read(("copy", 1, 3)), "aaa")
        self.assertEqual(state(reader), ("abbaaaa", "aa", 7))

    def test_marks(self):
        reader = Reader("ab", 3)
        self.assertEqual(reader.lost(0), "")
        self.assertEqual(state(reader), ("", "", 0))
        self.assertEqual(reader.lost(1), "?")
        self.assertEqual(reader.read(("text", "ab")), "ab")
        self.assertEqual(reader.read(("copy", 3, 5)), "?ab?a")
        self.assertEqual(state(reader), ("?ab?ab?a"[:8], "b?a", 8))
        self.assertEqual(reader.lost(0), "")
        self.assertEqual(reader.kept(), "b?a")
        self.assertEqual(reader.lost(1000), "?" * 1000)
        self.assertEqual((reader.kept(), len(reader)), ("???", 1008))
        self.assertEqual(reader.read(("copy", 2, 40)), "?" * 40)
        reader.read(FLUSH)
        self.assertEqual((reader.lost(2), reader.kept()), ("??", "??"))
        self.short(reader, ("copy", 3, 1), 2)

    def test_read_all(self):
        reader = Reader("ab", 3)
        tokens = [("text", "ab"), ("copy", 2, 3), FLUSH, ("text", "b"), ("copy", 1, 1)]
        self.assertEqual(reader.read_all(tokens), "ababa" + "bb")
        self.assertEqual(len(tokens), 5)
        self.assertEqual(state(reader), ("abababb", "bb", 7))
        self.assertEqual(reader.read_all([]), "")
        self.assertEqual(reader.read_all([FLUSH]), "")
        self.assertEqual(state(reader), ("abababb", "", 7))

    def test_read_all_or_nothing(self):
        reader = Reader("ab", 3)
        reader.read(("text", "ab"))
        for tokens, kind in [
            ([("text", "a"), FLUSH, ("copy", 1, 1), ("any", "a")], Short), ([FLUSH, ("any", "a"), ("copy", 1, 1)], NoToken),
            ([("text", "a"), None], NoToken), ([("copy", 2, 3), ("copy", 3, 1), FLUSH, ("copy", 3, 3)], Short),
        ]:
            with self.assertRaises(kind):
                reader.read_all(tokens)
            self.assertEqual(state(reader), ("ab", "ab", 2))
        with self.assertRaises(Short) as caught:
            reader.read_all([FLUSH, ("text", "a"), ("copy", 3, 1), ("copy", 2, 1)])
        self.assertEqual((caught.exception.distance, caught.exception.ahead), (3, 1))
        self.assertEqual(reader.read(("copy", 2, 2)), "ab")

    def test_read_all_is_read_one_by_one(self):
        chance = random.Random(6)
        for _ in range(200):
            width = chance.randint(1, 5)
            whole, single = Reader("ab", width), Reader("ab", width)
            for _ in range(4):
                tokens = [random_plain(chance, width) for _ in range(3)]
                try:
                    text = whole.read_all(tokens)
                except Short:
                    continue
                self.assertEqual(text, "".join([single.read(token) for token in tokens]))
                self.assertEqual(state(whole), state(single))

    def test_copied(self):
        reader = Reader("ab", 3)
        reader.read(("text", "ab"))
        other = reader.copied()
        self.assertEqual((state(other), type(other)), (state(reader), Reader))
        reader.read(FLUSH)
        other.read(("text", "a"))
        third = other.copied()
        third.lost(2)
        self.assertEqual(state(reader), ("ab", "", 2))
        self.assertEqual(state(other), ("aba", "aba", 3))
        self.assertEqual(state(third), ("aba??", "a??", 5))
        self.no_token(third, ("copy", 4, 1))
        self.no_token(third, ("text", "c"))


def random_plain(chance, width):
    kind = chance.choice(["text", "copy", "copy", "flush"])
    if kind == "text":
        return ("text", "".join([chance.choice("ab") for _ in range(chance.randint(1, 4))]))
    if kind == "flush":
        return FLUSH
    return ("copy", chance.randint(1, width), chance.randint(1, 6))


if __name__ == "__main__":
    unittest.main()
