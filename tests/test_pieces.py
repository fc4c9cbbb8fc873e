import itertools
import random
import unittest

from oddities import ODD, but
from windowcuts.errors import TooLong, Unlike, Wrong
from windowcuts.pieces import Piece
from windowcuts.tokens import size

FLUSH = ("flush",)


def random_token(chance, wide=5):
    kind = chance.choice(["text", "text", "any", "copy", "copy", "say", "flush"])
    if kind == "text":
        return ("text", "".join(chance.choice("ab") for _ in range(chance.randint(1, 3))))
    if kind == "any":
        return ("any", chance.choice(["a", "b", "ab"]))
    if kind == "flush":
        return FLUSH
    return (kind, chance.randint(1, wide), chance.randint(1, 4))


def random_piece(chance):
    while True:
        tokens = [random_token(chance) for _ in range(chance.randint(1, 7))]
        if sum(size(token) for token in tokens) > 0:
            return Piece("ab", tokens)


class Making(unittest.TestCase):
    def wrong(self, place, *arguments):
        with self.assertRaises(Wrong) as caught:
            Piece(*arguments)
        self.assertEqual((type(caught.exception), caught.exception.place), (Wrong, place), repr(arguments)[:60])

    def test_wrong_signs_first(self):
        for thing in but("ab", "abc", "any", "copy"):
            self.wrong(0, thing, [("text", "a")])
            self.wrong(0, thing, None)

    def test_wrong_tokens(self):
        for thing in ODD:
            self.wrong(1, "ab", thing)
            self.wrong(1, "ab", [("text", "a"), thing])
        for thing in [
            [], [FLUSH], [FLUSH, FLUSH], [["text", "a"]], (("text", "a"),), {("text", "a"): 1}, ("text", "a"),
            [("text", "c")], [("text", "a"), ("copy", 13, 1)], [("text", "a")] * 6000, [("text", "a" * 41)],
            [("text", "a" * 40), ("any", "ab")], [("copy", 1, 40), ("say", 1, 1)], [("text", "a")] * 41,
        ]:
            self.wrong(1, "ab", thing)

    def test_one_to_forty_signs(self):
        for tokens in [
            [("text", "a")], [("any", "ab")], [("copy", 12, 1)], [("say", 1, 1)], [FLUSH] * 299 + [("text", "b")],
            [("text", "a" * 40)], [("text", "a")] * 40, [("copy", 1, 39), FLUSH, ("any", "a")], [("say", 12, 40)],
        ]:
            self.assertEqual(Piece("ab", tokens).tokens(), tokens)
        self.assertEqual(Piece.MOST, 40)
        self.assertEqual(Piece("ab", [("text", "a")]).MOST, 40)

    def test_passed_and_returned_lists_are_apart(self):
        tokens = [("text", "a"), FLUSH, ("any", "ab"), ("copy", 1, 1)]
        piece = Piece("ab", tokens)
        shown = repr(piece)
        places, flushes = [("hole", "ab"), ("copy", 2)], [1, 0, 1]
        other = Piece.of_places("ab", places, flushes)
        self.assertEqual((places, flushes), ([("hole", "ab"), ("copy", 2)], [1, 0, 1]))
        tokens.append(("text", "b"))
        places.clear()
        flushes.append(2)
        for _ in range(2):
            for got in [piece.tokens(), piece.places(), piece.flushes(), piece.holes(), piece // 2]:
                got.append(None)
                got.reverse()
        self.assertEqual(repr(piece), shown)
        self.assertEqual(piece.places(), [("sign", "a"), ("hole", "ab"), ("copy", 1)])
        self.assertEqual((piece.flushes(), piece.holes(), len(piece)), ([1], ["ab"], 3))
        self.assertEqual(other.tokens(), [FLUSH, ("any", "ab"), FLUSH, ("copy", 2, 1)])

    def test_kinds_of_what_is_returned(self):
        piece = Piece("ab", [("say", 1, 2)])
        self.assertIs(type(piece.signs), str)
        for got in [piece.tokens(), piece.places(), piece.flushes(), piece.holes(), piece // 1]:
            self.assertIs(type(got), list)
        self.assertEqual((piece.flushes(), piece.holes()), ([], []))
        for got in [piece.merged(), piece.part(0, 1), piece + piece, piece * 2, 2 * piece, (piece // 1)[0]]:
            self.assertIs(type(got), Piece)


class OfPlaces(unittest.TestCase):
    def wrong(self, place, *arguments):
        with self.assertRaises(Wrong) as caught:
            Piece.of_places(*arguments)
        self.assertEqual(caught.exception.place, place, repr(arguments)[:60])

    def test_wrong_signs(self):
        for thing in but("ab", "abc", "any", "copy"):
            self.wrong(0, thing, [("sign", "a")], [])
            self.wrong(0, thing, None, None)

    def test_wrong_places(self):
        for thing in ODD:
            self.wrong(1, "ab", thing, [])
            self.wrong(1, "ab", thing, None)
            self.wrong(1, "ab", [("sign", "a"), thing], [])
            self.wrong(1, "ab", [(thing, "a")], [])
            if type(thing) is not int or thing not in range(1, 13):
                self.wrong(1, "ab", [("copy", thing)], [])
            if type(thing) is not str or thing not in ("a", "ab"):
                self.wrong(1, "ab", [("hole", thing)], [])
                self.wrong(1, "ab", [("sign", thing)], [])
        for place in [
            (), ("sign",), ("sign", "ab"), ("sign", ""), ("sign", "c"), ("sign", "a", 1), ["sign", "a"], ("hole", "ba"),
            ("hole", ""), ("hole", "abc"), ("copy", 0), ("copy", 13), ("copy", True), ("copy", 1, 1), ("say", 0),
            ("say", 13), ("say", "1"), ("text", "a"), ("any", "ab"), ("flush",), ("flush", 1), ("flush", ""),
        ]:
            self.wrong(1, "ab", [place], [])
            self.wrong(1, "ab", [place], None)
        self.wrong(1, "ab", [("sign", "a")] * 41, [])
        self.wrong(1, "ab", (("sign", "a"),), [])
        self.wrong(1, "ab", [], [])

    def test_wrong_flushes(self):
        for thing in ODD:
            if thing != []:
                self.wrong(2, "ab", [("sign", "a")], thing)
            if type(thing) is not int or thing not in (0, 1):
                self.wrong(2, "ab", [("sign", "a")], [0, thing])
        for flushes in [[-1], [2], [0, 1, 2], (0,), {0: 1}, [True], [False], [[0]], ["0"]]:
            self.wrong(2, "ab", [("sign", "a")], flushes)

    def test_merges(self):
        places = [("sign", "a"), ("sign", "b"), ("copy", 1), ("copy", 1), ("copy", 2), ("say", 2), ("say", 2)]
        places = places + [("hole", "ab"), ("hole", "ab"), ("sign", "b")]
        tokens = [("text", "ab"), ("copy", 1, 2), ("copy", 2, 1), ("say", 2, 2), ("any", "ab"), ("any", "ab")]
        tokens = tokens + [("text", "b")]
        self.assertEqual(Piece.of_places("ab", places, []).tokens(), tokens)

    def test_flushes_in_any_order(self):
        places = [("sign", "a"), ("sign", "b"), ("copy", 1), ("copy", 1)]
        tokens = [FLUSH, ("text", "a"), FLUSH, ("text", "b"), ("copy", 1, 1), FLUSH, ("copy", 1, 1), FLUSH]
        self.assertEqual(Piece.of_places("ab", places, [4, 0, 3, 1, 4, 0, 1]).tokens(), tokens)
        self.assertEqual(Piece.of_places("ab", places, [0]).tokens(), [FLUSH, ("text", "ab"), ("copy", 1, 2)])
        self.assertEqual(Piece.of_places("ab", places, [4]).tokens(), [("text", "ab"), ("copy", 1, 2), FLUSH])

    def test_forty_places(self):
        self.assertEqual(Piece.of_places("ab", [("copy", 12)] * 40, [40]).tokens(), [("copy", 12, 40), FLUSH])
        self.assertEqual(Piece.of_places("ab", [("sign", "b")] * 40, []).tokens(), [("text", "b" * 40)])

    def test_back_from_places(self):
        chance = random.Random(1)
        for _ in range(300):
            piece = random_piece(chance)
            again = Piece.of_places("ab", piece.places(), piece.flushes())
            self.assertEqual(again, piece.merged())
            self.assertEqual((again.places(), again.flushes()), (piece.places(), piece.flushes()))


class Telling(unittest.TestCase):
    def test_places_and_holes(self):
        tokens = [("any", "b"), ("text", "ab"), FLUSH, ("copy", 3, 2), ("say", 4, 2), ("any", "ab")]
        piece = Piece("ab", tokens)
        places = [("hole", "b"), ("sign", "a"), ("sign", "b"), ("copy", 3), ("copy", 3), ("say", 4), ("say", 4)]
        self.assertEqual(piece.places(), places + [("hole", "ab")])
        self.assertEqual((piece.holes(), len(piece), piece.signs), (["b", "ab"], 8, "ab"))

    def test_flushes_once_each(self):
        piece = Piece("ab", [FLUSH, FLUSH, ("text", "ab"), FLUSH, ("any", "a"), FLUSH, FLUSH, ("copy", 1, 3), FLUSH])
        self.assertEqual(piece.flushes(), [0, 2, 3, 6])

    def test_length_is_of_signs(self):
        self.assertEqual(len(Piece("ab", [FLUSH, ("copy", 2, 7), FLUSH])), 7)
        self.assertEqual(len(Piece("ab", [("text", "a" * 40)])), 40)

    def test_signs_that_spell_kinds(self):
        piece = Piece("fhlsu", [("text", "flush"), ("copy", 5, 5), FLUSH, ("text", "flush")])
        self.assertEqual((piece.flushes(), len(piece), piece.needs()), ([10], 15, 0))
        self.assertEqual(Piece("copy", [("any", "copy"), ("text", "copy")]).holes(), ["copy"])

    def test_repr(self):
        piece = Piece("abc", [("text", "ca"), FLUSH, ("copy", 2, 3), ("any", "ac"), ("say", 1, 1)])
        told = "Piece('abc', [('text', 'ca'), ('flush',), ('copy', 2, 3), ('any', 'ac'), ('say', 1, 1)])"
        self.assertEqual(repr(piece), told)
        self.assertEqual(eval(told), piece)

    def test_equality(self):
        piece = Piece("ab", [("text", "ab")])
        self.assertIs(piece == Piece("ab", [("text", "ab")]), True)
        self.assertIs(piece != Piece("ab", [("text", "ab")]), False)
        for other in [
            Piece("abc", [("text", "ab")]), Piece("ab", [("text", "a"), ("text", "b")]), Piece("ab", [("text", "ba")]),
            Piece("ab", [FLUSH, ("text", "ab")]), [("text", "ab")], "ab", ("ab", [("text", "ab")]),
        ] + ODD:
            self.assertIs(piece == other, False)

    def test_merged_by_hand(self):
        tokens = [FLUSH, FLUSH, ("text", "a"), ("text", "ba"), ("any", "a"), ("any", "a"), ("copy", 2, 1)]
        tokens = tokens + [("copy", 2, 3), ("copy", 1, 1), ("say", 1, 1), ("say", 1, 1), ("say", 2, 1), FLUSH, FLUSH]
        merged = [FLUSH, ("text", "aba"), ("any", "a"), ("any", "a"), ("copy", 2, 4), ("copy", 1, 1), ("say", 1, 2)]
        self.assertEqual(Piece("ab", tokens).merged().tokens(), merged + [("say", 2, 1), FLUSH])

    def test_nothing_is_merged_over_a_flush(self):
        tokens = [("text", "a"), FLUSH, ("text", "b"), ("copy", 1, 1), FLUSH, ("copy", 1, 1)]
        self.assertEqual(Piece("ab", tokens).merged().tokens(), tokens)

    def test_merged_has_fewest_tokens(self):
        chance = random.Random(2)
        for _ in range(300):
            piece = random_piece(chance)
            merged = piece.merged()
            self.assertEqual((merged.places(), merged.flushes()), (piece.places(), piece.flushes()))
            for one, other in zip(merged.tokens(), merged.tokens()[1:]):
                alike = one[0] == other[0] and (one[0] in ("text", "flush") or one[1] == other[1])
                self.assertFalse(alike and one[0] != "any", merged)


class Parts(unittest.TestCase):
    def test_every_part(self):
        chance = random.Random(3)
        for _ in range(150):
            piece = random_piece(chance)
            places, flushes, whole = piece.places(), piece.flushes(), len(piece)
            for begin, end in itertools.combinations(range(whole + 1), 2):
                part = piece.part(begin, end)
                self.assertEqual(part.places(), places[begin:end])
                kept = [f - begin for f in flushes if begin <= f and (f < end or (end == whole and f == whole))]
                self.assertEqual(part.flushes(), kept)
                self.assertEqual((part, part.signs), (part.merged(), "ab"))

    def test_flushes_at_the_borders(self):
        piece = Piece("ab", [FLUSH, ("text", "a"), FLUSH, ("text", "b"), FLUSH])
        self.assertEqual(piece.part(0, 1).tokens(), [FLUSH, ("text", "a")])
        self.assertEqual(piece.part(1, 2).tokens(), [FLUSH, ("text", "b"), FLUSH])
        self.assertEqual(piece.part(0, 2), piece)

    def test_floor_division(self):
        chance = random.Random(4)
        for _ in range(100):
            piece = random_piece(chance)
            for many in list(range(1, len(piece) + 2)) + [10 ** 20]:
                parts = piece // many
                self.assertEqual([len(part) for part in parts[:-1]], [many] * (len(parts) - 1))
                self.assertTrue(1 <= len(parts[-1]) <= many)
                begins = range(0, len(piece), many)
                self.assertEqual(parts, [piece.part(at, min(at + many, len(piece))) for at in begins])
                whole = parts[0]
                for part in parts[1:]:
                    whole = whole + part
                self.assertEqual(whole.merged(), piece.merged())


class Needs(unittest.TestCase):
    def check(self, many, *tokens):
        self.assertEqual(Piece("ab", list(tokens)).needs(), many, tokens)

    def test_by_hand(self):
        self.check(0, ("text", "a"))
        self.check(0, ("any", "ab"), ("say", 12, 2))
        self.check(12, ("copy", 12, 1))
        self.check(12, ("copy", 12, 40))
        self.check(1, ("copy", 1, 40))
        self.check(2, ("text", "a"), ("copy", 3, 5))
        self.check(3, ("copy", 2, 1), ("copy", 4, 1))
        self.check(0, ("say", 5, 3), ("copy", 3, 1))
        self.check(0, ("text", "abb"), ("copy", 3, 9))

    def test_behind_flushes(self):
        self.check(None, FLUSH, ("copy", 1, 1))
        self.check(0, FLUSH, ("text", "a"), ("copy", 1, 9))
        self.check(None, FLUSH, ("text", "a"), ("copy", 2, 1))
        self.check(None, ("text", "ab"), FLUSH, ("copy", 1, 1))
        self.check(None, ("copy", 7, 1), FLUSH, ("any", "a"), FLUSH, ("copy", 1, 1))
        self.check(7, ("copy", 7, 1), FLUSH, ("any", "a"), ("copy", 1, 2))
        self.check(0, FLUSH, FLUSH, ("say", 7, 2), ("copy", 2, 2))
        self.check(2, ("copy", 2, 2), FLUSH)

    def test_as_readers_do(self):
        chance = random.Random(5)
        for _ in range(400):
            piece = random_piece(chance)
            enough = [many for many in range(13) if self.reads(piece, many)]
            least = piece.needs()
            self.assertEqual(enough, [] if least is None else list(range(least, 13)), piece)

    def reads(self, piece, many):
        kept = many
        for token in piece.tokens():
            if token[0] == "copy" and token[1] > kept:
                return False
            kept = 0 if token == FLUSH else min(12, kept + size(token))
        return True


class Operators(unittest.TestCase):
    one = Piece("ab", [("text", "a"), FLUSH, ("copy", 1, 2)])
    two = Piece("ab", [("text", "b"), ("any", "ab")])

    def test_sum(self):
        self.assertEqual((self.one + self.two).tokens(), self.one.tokens() + self.two.tokens())
        self.assertEqual((self.two + self.two).tokens(), [("text", "b"), ("any", "ab")] * 2)

    def test_products(self):
        for many in range(1, 14):
            for got in (self.one * many, many * self.one):
                self.assertEqual(got, Piece("ab", self.one.tokens() * many))
        self.assertEqual(self.one * 1, self.one)

    def test_forty_signs_and_more(self):
        long, short = Piece("ab", [("copy", 1, 39)]), Piece("ab", [("any", "b")])
        self.assertEqual(len(long + short), 40)
        self.assertEqual(len(short * 40), 40)
        self.assertEqual(len(20 * self.two), 40)
        for make in [
            lambda: long + self.two, lambda: long + short + short, lambda: short * 41, lambda: 41 * short,
            lambda: long * 2, lambda: 14 * self.one, lambda: short * 10 ** 30, lambda: 10 ** 30 * short,
        ]:
            with self.assertRaises(TooLong) as caught:
                make()
            self.assertEqual(caught.exception.limit, 40)

    def test_unlike_signs_first(self):
        long = Piece("ab", [("copy", 1, 40)])
        for other in [Piece("abc", [("text", "a")]), Piece("ac", [("copy", 1, 40)])]:
            for make in (lambda: long + other, lambda: other + long, lambda: self.one + other):
                self.assertRaises(Unlike, make)

    def test_true_is_not_one(self):
        for make in (lambda: self.one * True, lambda: True * self.one, lambda: self.one // True):
            self.assertRaises(TypeError, make)

    def test_parts_are_left_as_they_are(self):
        before = repr([self.one, self.two])
        self.one + self.two, self.one * 3, 3 * self.one, self.one // 2
        self.assertEqual(repr([self.one, self.two]), before)


if __name__ == "__main__":
    unittest.main()
