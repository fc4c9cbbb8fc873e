import random
import unittest

from making import made_piece, raised
from oddities import but
from test_pieces import FLUSH
from windowcuts.errors import NoEntry, TooFar, Wrong
from windowcuts.frames import Frame
from windowcuts.pieces import Piece
from windowcuts.roots import text_roots

A = Piece("ab", [("text", "a")])
HOLED = Piece("ab", [("any", "ab"), ("copy", 2, 1), ("any", "b")])


def slots(width):
    return [("slot", slot) for slot in range(1, width + 1)]


class Frames(unittest.TestCase):
    def test_wrong(self):
        for thing in but(1, 2, 12):
            self.assertEqual(raised(self, Wrong, Frame, thing).place, 0)

    def test_no_pieces(self):
        for width in range(1, 13):
            frame = Frame(width)
            self.assertEqual((frame.roots(), frame.holes(), len(frame)), (slots(width), [], width))
            self.assertEqual([frame[slot] for slot in range(1, width + 1)], slots(width))

    def test_one_sign(self):
        frame = Frame(3) << A
        self.assertEqual(frame.roots(), [("sign", "a"), ("slot", 1), ("slot", 2)])
        self.assertEqual((frame << Piece("ab", [("copy", 3, 1)])).roots(), [("slot", 2), ("sign", "a"), ("slot", 1)])
        self.assertEqual((Frame(1) << A).roots(), [("sign", "a")])
        self.assertEqual((Frame(1) << Piece("ab", [("say", 1, 40)])).roots(), [("slot", 1)])

    def test_more_signs_than_the_width(self):
        frame = Frame(2) << Piece("ab", [("copy", 2, 1), ("text", "b"), ("any", "ab"), ("text", "a"), ("copy", 2, 1)])
        self.assertEqual((frame.roots(), frame.holes()), ([("hole", 0), ("sign", "a")], ["ab"]))
        for width in range(1, 13):
            long = Frame(width) << Piece("ab", [("copy", width, 40)])
            self.assertEqual(long.roots(), [("slot", 1 + (at - 40) % width) for at in range(width)])

    def test_holes_are_counted_on(self):
        frame = Frame(4) << HOLED << A << HOLED
        self.assertEqual(frame.roots(), [("hole", 3), ("sign", "a"), ("hole", 2), ("sign", "a")])
        self.assertEqual(frame.holes(), ["ab", "b", "ab", "b"])
        self.assertEqual((frame << Piece("ab", [("any", "a"), FLUSH]))[1], ("hole", 4))
        many = Frame(1)
        for _ in range(200):
            many = many << Piece("ab", [("any", "ab")] * 40)
        self.assertEqual((many[1], len(many.holes())), (("hole", 7999), 8000))

    def test_copies_of_holes_and_slots_ahead(self):
        frame = Frame(3) << HOLED << Piece("ab", [("copy", 3, 2), ("say", 3, 1)])
        self.assertEqual(frame.roots(), [("hole", 1), ("slot", 1), ("hole", 0)])

    def test_flushes_mean_nothing(self):
        piece = Piece("ab", [FLUSH, ("copy", 2, 1), FLUSH, ("say", 1, 1), FLUSH])
        self.assertEqual((Frame(3) << piece).roots(), [("slot", 2), ("slot", 2), ("slot", 1)])

    def test_too_far(self):
        piece = Piece("ab", [("copy", 2, 1), ("text", "a"), ("say", 5, 2), ("copy", 4, 1), ("copy", 12, 1)])
        for width, distance in [(1, 2), (2, 5), (3, 5), (4, 5), (5, 12), (11, 12)]:
            frame = Frame(width) << A
            before = frame.roots()
            self.assertEqual(raised(self, TooFar, lambda: frame << piece).distance, distance)
            self.assertEqual((frame.roots(), frame.holes(), frame == Frame(width) << A), (before, [], True))
        self.assertEqual(len(Frame(12) << piece), 12)

    def test_the_frame_ahead_stays(self):
        frame = Frame(3) << HOLED
        roots, choices = frame.roots(), frame.holes()
        one, other = frame << A, frame << HOLED
        self.assertEqual((frame.roots(), frame.holes()), (roots, choices))
        self.assertEqual((one.roots(), one.holes()), ([("sign", "a"), ("hole", 1), ("slot", 1)], ["ab", "b"]))
        self.assertEqual((other[1], other.holes()), (("hole", 3), ["ab", "b", "ab", "b"]))
        self.assertEqual((HOLED.places(), A.places()), ([("hole", "ab"), ("copy", 2), ("hole", "b")], [("sign", "a")]))

    def test_no_entry(self):
        for width in (1, 3, 12):
            frame = Frame(width)
            self.assertEqual((frame[1], frame[width]), (("slot", 1), ("slot", width)))
            for thing in but(*range(1, width + 1)) + [0, width + 1, -1, -width, True, None, "1", (1,), slice(1, 2)]:
                self.assertIs(raised(self, NoEntry, lambda: frame[thing]).at, thing)

    def test_equality(self):
        frame = Frame(3)
        self.assertTrue(frame == Frame(3) and (frame << HOLED) == (Frame(3) << HOLED))
        self.assertFalse(frame != Frame(3))
        self.assertFalse(frame == Frame(2) or frame == Frame(4))
        self.assertFalse(frame == frame << A)
        self.assertTrue((frame << A << A << A) == (frame << Piece("ab", [("text", "aaa")])))
        ahead = [Piece("ab", [("any", choice)]) for choice in ("a", "b", "ab")] + [A]
        behind = [frame << piece << Piece("ab", [("text", "aaa")]) for piece in ahead]
        for one, other in [(0, 1), (0, 2), (1, 2), (0, 3)]:
            self.assertFalse(behind[one] == behind[other])
            self.assertEqual(behind[one].roots(), behind[other].roots())
        for thing in but() + [frame.roots(), (3, slots(3), []), A]:
            self.assertIs(frame == thing, False)
        self.assertIs(frame == Frame(3), True)

    def test_returned_lists_are_new(self):
        frame = Frame(2) << HOLED
        for _ in range(2):
            roots, choices = frame.roots(), frame.holes()
            self.assertEqual((roots, choices), ([("hole", 1), ("slot", 1)], ["ab", "b"]))
            roots.append(None)
            choices.clear()

    def test_is_not_iterated_over(self):
        with self.assertRaises(TypeError):
            list(Frame(3))

    def test_joined_pieces(self):
        chance = random.Random(41)
        for _ in range(300):
            width = chance.randint(1, 7)
            one, other = made_piece(chance, width), made_piece(chance, width)
            both = Piece("ab", one.tokens() + other.tokens())
            frame = Frame(width) << both
            self.assertTrue(frame == Frame(width) << one << other)
            told = slots(width)[::-1] + text_roots(both)
            self.assertEqual(frame.roots(), told[:-width - 1:-1])
            self.assertEqual(frame.holes(), both.holes())


if __name__ == "__main__":
    unittest.main()
