"""What the points 5 to 11 of the document promise, on rows that are written and read by the package's own readers."""

import itertools
import random
import unittest

from making import fills, made_plan, made_sound
from windowcuts.counts import refused_row, unsound
from windowcuts.damage import Damage, lost_marks
from windowcuts.errors import Short
from windowcuts.facts import Facts
from windowcuts.harms import harm, harm_shown
from windowcuts.likes import compare
from windowcuts.pieces import Piece
from windowcuts.pressing import piece_price, pressed
from windowcuts.reading import Reader
from windowcuts.rows import holes, rows_upto, state_behind, stream, texts
from windowcuts.spelling import cheapest_spelling, spelled


def some_fills(chance, choices, most=8):
    every = fills(choices) if len(choices) < 5 else [[chance.choice(choice) for choice in choices] for _ in range(most)]
    return every if len(every) <= most else chance.sample(every, most)


def read(plan, blocks, lost=()):
    """What a reader writes of blocks, those with these indexes being lost."""
    reader = Reader(plan.signs, plan.width)
    told = []
    for at, (block, many) in enumerate(blocks):
        told.append(reader.lost(many) if at in lost else reader.read_all(block))
    return told


def sized(plan, row, fill):
    """The blocks of a row, each with the number of signs that it writes."""
    return [(block, len(plan[name][2])) for name, block in zip(row, stream(plan, row, fill))]


class Guarantees(unittest.TestCase):
    def test_sound_plans(self):
        """Point 5."""
        chance = random.Random(190)
        seen = {True: 0, False: 0}
        for _ in range(120):
            plan = made_plan(chance, filled=chance.random() < 0.5)
            places = unsound(plan)
            seen[not places] += 1
            if not places:
                for row in rows_upto(plan, 4):
                    for fill in some_fills(chance, holes(plan, row), 3):
                        self.assertEqual(read(plan, sized(plan, row, fill)), texts(plan, row, fill))
            for edge, index in places:
                row = refused_row(plan, edge, index)
                self.assertEqual(row[-1], edge)
                with self.assertRaises(Short):
                    texts(plan, row, [choice[0] for choice in holes(plan, row)])
        self.assertGreater(min(seen.values()), 15, seen)

    def test_sure_equals(self):
        """Point 6."""
        chance = random.Random(191)
        seen = {True: 0, False: 0}
        for _ in range(60):
            plan = made_sound(chance, filled=True)
            facts = Facts(plan)
            rows = {}
            for row in rows_upto(plan, 4):
                for fill in some_fills(chance, holes(plan, row)):
                    rows.setdefault(state_behind(plan, row), []).append("".join(texts(plan, row, fill)))
            for state, lines in rows.items():
                equals = facts.equals(state)
                for one, other in itertools.combinations(range(1, plan.width + 1), 2):
                    seen[(one, other) in equals] += 1
                    if (one, other) in equals:
                        self.assertTrue(all(line[-one] == line[-other] for line in lines if len(line) >= other))
                    elif facts.signs_in(state, other):
                        row, fill = facts.differ_row(state, one, other)
                        line = "".join(texts(plan, row, fill))
                        self.assertEqual(state_behind(plan, row), state)
                        self.assertNotEqual(line[-one], line[-other])
        self.assertGreater(min(seen.values()), 30, seen)

    def test_losses(self):
        """Point 7: what a reader writes of a stream one block of which is lost."""
        chance = random.Random(192)
        seen = {"spoilt": 0, "ended": 0}
        for _ in range(60):
            plan = made_sound(chance, filled=True)
            told = {edge: Damage(plan, lost_marks(plan, edge)) for edge in plan.used()}
            marked = {edge: set() for edge in told}
            latest = dict.fromkeys(told, 0)
            for row in rows_upto(plan, 5):
                blocks = sized(plan, row, [choice[0] for choice in holes(plan, row)])
                for at, edge in enumerate(row):
                    written = 0
                    for name, text in list(zip(row, read(plan, blocks, [at])))[at + 1:]:
                        marked[edge] |= {(name, index) for index, sign in enumerate(text) if sign == "?"}
                        latest[edge] = max([latest[edge]] + [written + index + 1 for index, sign in enumerate(text) if sign == "?"])
                        written += len(text)
            for edge, damage in told.items():
                self.assertLessEqual(marked[edge], set(damage.places()))
                if damage.until() is not None:
                    self.assertLessEqual(latest[edge], damage.until())
                    if damage.longest() is None or len(damage.longest()[1]) < 3:
                        # Rows of five edges, the first one of which fills the window, are long enough then.
                        seen["ended"] += self.is_reached(plan, edge) and latest[edge] == damage.until() > 0
                seen["spoilt"] += len(damage.places()) > 0
        self.assertGreater(min(seen.values()), 20, seen)

    def is_reached(self, plan, edge):
        return any(row[-1:] == [edge] for row in rows_upto(plan, 2))

    def test_harms(self):
        """Point 8."""
        chance = random.Random(193)
        seen = {"right": 0, "wrong": 0}
        for _ in range(160):
            plan = made_sound(chance, filled=True)
            state = chance.choice(plan.reached())
            names, at = [], state
            while plan.out(at) and len(names) < 3:
                names.append(chance.choice(plan.out(at)))
                at = plan[names[-1]][1]
            if not names:
                continue
            order = [chance.randrange(len(names)) for _ in range(chance.randint(0, 4))]
            told = harm(plan, state, names, order)
            if told[0] == "right":
                seen["right"] += self.check_right(chance, plan, state, names, order)
            elif told[0] == "wrong":
                for place in told[1]:
                    row, fill, path = harm_shown(plan, state, names, order, place)
                    wrote, got = self.both(plan, row, names, path, fill, order)
                    self.assertNotEqual(wrote[-1][place[1]], got[-1][place[1]])
                    seen["wrong"] += 1
        self.assertGreater(min(seen.values()), 20, seen)

    def both(self, plan, row, names, path, fill, order):
        """What is written on a path behind names, and what a reader of another order reads there."""
        whole = row + names + path
        blocks = sized(plan, whole, fill)
        begin, end = len(row), len(row + names)
        got = read(plan, blocks[:begin] + [blocks[begin + index] for index in order] + blocks[end:])
        return texts(plan, whole, fill)[end:], got[begin + len(order):]

    def check_right(self, chance, plan, state, names, order):
        many = 0
        for row in rows_upto(plan, 3):
            if state_behind(plan, row) == state:
                path, at = [], plan[names[-1]][1]
                while plan.out(at) and len(path) < 4:
                    path.append(chance.choice(plan.out(at)))
                    at = plan[path[-1]][1]
                fill = [chance.choice(choice) for choice in holes(plan, row + names + path)]
                wrote, got = self.both(plan, row, names, path, fill, order)
                self.assertEqual(got, wrote)
                many += 1
        return many

    def changed(self, chance, plan):
        """The plan with one place otherwise."""
        edge = chance.choice(list(plan.edges()))
        source, target, piece = plan[edge]
        places = piece.places()
        at = chance.randrange(len(places))
        if places[at][0] != "hole":
            places[at] = chance.choice([("sign", "a"), ("sign", "b"), ("copy", 1), ("copy", 2), ("say", 1), ("say", 3)])
        return plan.changed(edge, source, target, Piece.of_places(plan.signs, places, piece.flushes()))

    def test_alike_plans(self):
        """Point 9."""
        chance = random.Random(194)
        seen = {True: 0, False: 0}
        for _ in range(200):
            one = made_sound(chance, filled=True)
            other = self.changed(chance, one)
            if unsound(other):
                continue
            told = compare(one, other)
            seen[told[0] == "alike"] += 1
            if told[0] == "alike":
                for row in rows_upto(one, 4):
                    for fill in some_fills(chance, holes(one, row), 4):
                        self.assertEqual(texts(one, row, fill), texts(other, row, fill))
            else:
                self.assertEqual(told[0], "texts")
                self.assertNotEqual(texts(one, *told[1:]), texts(other, *told[1:]))
        self.assertGreater(min(seen.values()), 30, seen)

    def test_pressed_plans(self):
        """Point 10: no plan that differs at a place or two, and is alike, is cheaper."""
        chance = random.Random(195)
        alike = 0
        for _ in range(160):
            plan = made_sound(chance, filled=True)
            got, prices = pressed(plan)
            self.assertEqual(compare(plan, got)[0], "alike")
            for _ in range(8):
                other = self.changed(chance, got if chance.random() < 0.5 else plan)
                if not unsound(other) and compare(plan, other)[0] == "alike":
                    alike += 1
                    for edge, price in prices.items():
                        self.assertLessEqual(price, piece_price(other[edge][2]))
        self.assertGreater(alike, 60)

    def test_spelled_signs(self):
        """Point 11: with the places told a reader with a mark writes the wished ones; without one of them, it does not."""
        chance = random.Random(196)
        seen = 0
        for _ in range(120):
            plan = made_sound(chance, filled=True)
            edge = chance.choice(plan.used())
            marks = lost_marks(plan, edge)
            wished = Damage(plan, marks).places()
            price, places, ways = cheapest_spelling(plan, marks, wished, {})
            quiet = spelled(plan, places)
            for row in rows_upto(quiet, 4):
                blocks = sized(quiet, row, [choice[0] for choice in holes(quiet, row)])
                for at in range(len(row)):
                    if row[at] == edge:
                        for name, text in list(zip(row, read(quiet, blocks, [at])))[at + 1:]:
                            self.assertFalse({(name, index) for index, sign in enumerate(text) if sign == "?"} & set(wished))
            for place in places:
                fewer = [one for one in places if one != place]
                self.assertTrue(set(Damage(spelled(plan, fewer), marks).places()) & set(wished))
            self.assertEqual((price, sum(way[0] for way in ways)), (len(places), price))
            seen += len(places) > 0
        self.assertGreater(seen, 30)


if __name__ == "__main__":
    unittest.main()
