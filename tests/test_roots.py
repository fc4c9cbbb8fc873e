import random
import unittest

from making import made_piece
from test_pieces import FLUSH
from windowcuts.pieces import Piece
from windowcuts.roots import reader_roots, text_roots

SIGN, HOLE, SLOT, PLACE = "sign", "hole", "slot", "place"


def followed(piece, kinds):
    """The roots found by going back from each place, one after another."""
    places = piece.places()
    roots = []
    for at in range(len(places)):
        while at >= 0 and places[at][0] in kinds:
            at -= places[at][1]
        if at < 0:
            roots.append((SLOT, -at))
        elif kinds == ["copy"]:
            roots.append((PLACE, at))
        elif places[at][0] == HOLE:
            roots.append((HOLE, len([place for place in places[:at] if place[0] == HOLE])))
        else:
            roots.append(places[at])
    return roots


class Roots(unittest.TestCase):
    def check(self, tokens, text, reader):
        piece = Piece("ab", tokens)
        for one in (piece, piece.merged()):
            self.assertEqual(text_roots(one), text)
            self.assertEqual(reader_roots(one), reader)

    def test_texts_and_holes(self):
        self.check([("text", "ab"), ("any", "ab"), ("text", "b"), ("any", "a")],
                   [(SIGN, "a"), (SIGN, "b"), (HOLE, 0), (SIGN, "b"), (HOLE, 1)], [(PLACE, at) for at in range(5)])

    def test_copies_and_says_of_one_another(self):
        self.check([("any", "ab"), ("say", 1, 1), ("copy", 1, 1), ("say", 2, 1), ("copy", 3, 1)],
                   [(HOLE, 0)] * 5, [(PLACE, 0), (PLACE, 1), (PLACE, 1), (PLACE, 3), (PLACE, 1)])
        self.check([("copy", 2, 1), ("say", 1, 1), ("copy", 1, 1)],
                   [(SLOT, 2)] * 3, [(SLOT, 2), (PLACE, 1), (PLACE, 1)])

    def test_longer_than_their_distance(self):
        self.check([("copy", 2, 5)], [(SLOT, 2), (SLOT, 1)] * 2 + [(SLOT, 2)], [(SLOT, 2), (SLOT, 1)] * 2 + [(SLOT, 2)])
        self.check([("say", 2, 5)], [(SLOT, 2), (SLOT, 1)] * 2 + [(SLOT, 2)], [(PLACE, at) for at in range(5)])
        self.check([("text", "a"), ("copy", 2, 4)], [(SIGN, "a"), (SLOT, 1), (SIGN, "a"), (SLOT, 1), (SIGN, "a")],
                   [(PLACE, 0), (SLOT, 1), (PLACE, 0), (SLOT, 1), (PLACE, 0)])

    def test_over_flushes(self):
        self.check([("text", "a"), FLUSH, ("say", 1, 1), ("copy", 1, 1), FLUSH, ("say", 4, 1)],
                   [(SIGN, "a")] * 3 + [(SLOT, 1)], [(PLACE, 0), (PLACE, 1), (PLACE, 1), (PLACE, 3)])

    def test_pieces_that_are_not_sound(self):
        self.check([("text", "a"), FLUSH, ("copy", 1, 1), ("copy", 12, 1)],
                   [(SIGN, "a"), (SIGN, "a"), (SLOT, 10)], [(PLACE, 0), (PLACE, 0), (SLOT, 10)])

    def test_holes_are_counted_in_order(self):
        self.check([("any", "a"), ("any", "ab"), ("say", 1, 1), ("any", "b"), ("copy", 1, 1), ("copy", 5, 1)],
                   [(HOLE, 0), (HOLE, 1), (HOLE, 1), (HOLE, 2), (HOLE, 2), (HOLE, 0)],
                   [(PLACE, 0), (PLACE, 1), (PLACE, 2), (PLACE, 3), (PLACE, 3), (PLACE, 0)])

    def test_all_slots_and_forty_places(self):
        for distance in range(1, 13):
            slots = [(SLOT, distance - at % distance) for at in range(40)]
            self.check([("copy", distance, 40)], slots, slots)

    def test_at_random(self):
        chance = random.Random(40)
        for _ in range(500):
            piece = made_piece(chance, 7, most=8)
            before = repr(piece)
            for one in (piece, piece.merged()):
                self.assertEqual(text_roots(one), followed(one, ["copy", "say"]))
                self.assertEqual(reader_roots(one), followed(one, ["copy"]))
            self.assertEqual(repr(piece), before)

    def test_returned_lists_are_new(self):
        piece = Piece("ab", [("text", "a"), ("copy", 1, 1)])
        for _ in range(2):
            text, reader = text_roots(piece), reader_roots(piece)
            self.assertEqual((text, reader), ([(SIGN, "a")] * 2, [(PLACE, 0)] * 2))
            self.assertTrue(all(type(root) is tuple for root in text + reader))
            text.append(None)
            reader.clear()


if __name__ == "__main__":
    unittest.main()
