import random
import unittest

from making import made_plan, made_sound, one_line, raised
from oddities import but
from test_pieces import FLUSH
from windowcuts.errors import NoEntry, NoRow, Short
from windowcuts.origins import chain, full_chain, place_of
from windowcuts.pieces import Piece
from windowcuts.plans import Plan
from windowcuts.rows import holes, rows_upto, texts

CALLS = (place_of, chain, full_chain)


class Origins(unittest.TestCase):
    def test_first_and_last_index(self):
        plan, row = one_line([("text", "ab")], [("copy", 2, 1), FLUSH], [("any", "ab"), ("copy", 1, 2)])
        self.assertEqual([place_of(plan, row, at) for at in range(6)], [(0, 0), (0, 1), (1, 0), (2, 0), (2, 1), (2, 2)])
        self.assertEqual([chain(plan, row, at) for at in (0, 5)], [[(0, 0)], [(2, 2), (2, 1), (2, 0)]])
        self.assertEqual(place_of(plan, row[:1], 1), (0, 1))

    def test_copies_over_borders_of_pieces(self):
        plan, row = one_line([("text", "a"), ("any", "ab")], [("copy", 2, 3)], [("copy", 3, 1), ("copy", 1, 1)])
        self.assertEqual(chain(plan, row, 6), [(2, 1), (2, 0), (1, 0), (0, 0)])
        self.assertEqual(chain(plan, row, 4), [(1, 2), (1, 0), (0, 0)])
        self.assertEqual(chain(plan, row, 3), [(1, 1), (0, 1)])

    def test_says(self):
        plan, row = one_line([("text", "ab"), ("say", 2, 1)], [FLUSH, ("say", 1, 1), ("copy", 1, 1)], [("copy", 2, 2)])
        self.assertEqual(chain(plan, row, 6), [(2, 1), (1, 1), (1, 0)])
        self.assertEqual(full_chain(plan, row, 6), [(2, 1), (1, 1), (1, 0), (0, 2), (0, 0)])
        self.assertEqual([chain(plan, row, 2), full_chain(plan, row, 2)], [[(0, 2)], [(0, 2), (0, 0)]])
        self.assertEqual([chain(plan, row, 1), full_chain(plan, row, 1)], [[(0, 1)]] * 2)

    def test_many_steps(self):
        once = {"a": ("s", "t", Piece("ab", [("any", "ab")])), "b": ("t", "t", Piece("ab", [("copy", 1, 40)]))}
        plan, row = Plan("ab", 1, "s", once), ["a"] + ["b"] * 199
        self.assertEqual(place_of(plan, row, 199 * 40), (199, 39))
        told = chain(plan, row, 199 * 40)
        self.assertEqual(told, [(at, place) for at in range(199, 0, -1) for place in range(39, -1, -1)] + [(0, 0)])
        self.assertEqual(full_chain(plan, row, 199 * 40), told)

    def test_no_row(self):
        plan, row = one_line([("copy", 1, 1)], [("text", "a")])
        for call in CALLS:
            for names, at in [(["b"], 0), (["a", "a"], 1), (["a", "b", "b"], 2), (["a", "zz"], 1)]:
                self.assertEqual(raised(self, NoRow, call, plan, names, -1).at, at)
            for thing in but("a", "b"):
                self.assertEqual(raised(self, NoRow, call, plan, ["a", thing], 7).at, 1)

    def test_no_entry(self):
        plan, row = one_line([("copy", 1, 1)], [("text", "ab")])
        good, names = one_line([("text", "a")], [("copy", 1, 2)])
        for call in CALLS:
            for at in (-1, -3, 3, 4, 10 ** 30, -10 ** 30):
                self.assertEqual(raised(self, NoEntry, call, plan, row, at).at, at)
                self.assertEqual(raised(self, NoEntry, call, good, names, at).at, at)
            self.assertEqual(raised(self, NoEntry, call, good, [], 0).at, 0)
            self.assertEqual(raised(self, NoEntry, call, good, names[:1], 1).at, 1)

    def test_short(self):
        for call in CALLS:
            for pieces, told in [
                ([[("copy", 1, 1)], [("text", "ab")]], (1, 0)), ([[("text", "ab")], [("say", 3, 1)]], (3, 2)),
                ([[("text", "ab")], [("text", "b"), FLUSH, ("text", "a"), ("copy", 2, 1)]], (2, 1)),
            ]:
                plan, row = one_line(*pieces)
                error = raised(self, Short, call, plan, row, 0)
                self.assertEqual((error.distance, error.ahead), told)

    def test_every_row(self):
        chance = random.Random(42)
        seen = 0
        for at in range(120):
            plan = made_sound(chance) if at % 2 else made_plan(chance)
            for row in rows_upto(plan, 3):
                seen += self.check(plan, row, chance)
        self.assertGreater(seen, 1000)

    def check(self, plan, row, chance):
        """How many signs the row has whose origins were asked for."""
        places = [(at, place) for at, name in enumerate(row) for place in range(len(plan[name][2]))]
        told = [place for name in row for place in plan[name][2].places()]
        fill = [chance.choice(choice) for choice in holes(plan, row)]
        try:
            text = "".join(texts(plan, row, fill))
        except Short as error:
            for call in CALLS if told else []:
                again = raised(self, Short, call, plan, row, 0)
                self.assertEqual((again.distance, again.ahead), (error.distance, error.ahead))
            return 0
        before = list(row)
        for at in range(len(told)):
            self.assertEqual(place_of(plan, row, at), places[at])
            for call, kinds in [(chain, ["copy"]), (full_chain, ["copy", "say"])]:
                back = [at]
                while told[back[-1]][0] in kinds:
                    back.append(back[-1] - told[back[-1]][1])
                got = call(plan, row, at)
                self.assertEqual(got, [places[index] for index in back])
                self.assertEqual({text[index] for index in back}, {text[at]})
        self.assertEqual(row, before)
        return len(told)

    def test_returned_things_are_new(self):
        plan, row = one_line([("text", "a"), ("copy", 1, 1)])
        for call in (chain, full_chain):
            for _ in range(2):
                got = call(plan, row, 1)
                self.assertEqual((type(got), got), (list, [(0, 1), (0, 0)]))
                got.append(None)
        self.assertIs(type(place_of(plan, row, 1)), tuple)


if __name__ == "__main__":
    unittest.main()
