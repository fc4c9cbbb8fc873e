import itertools
import random
import unittest

from making import check_new, made_plan, made_sound, one_line, raised, sixteen, turned, worlds
from test_pieces import FLUSH
from windowcuts.counts import unsound
from windowcuts.errors import NoPlace, Unknown, Unreached, Unsound
from windowcuts.likes import compare
from windowcuts.pieces import Piece
from windowcuts.plans import Plan
from windowcuts.pressing import beginning_prices, fixed_sign, piece_price, pressed, right_distances
from windowcuts.rows import rows_upto, texts

A = Piece("ab", [("text", "a")])
GREAT = 10 ** 18


def ahead_of(plan, edge):
    """All lines of signs with the piece of an edge at their end, each with the number of kept signs ahead of it."""
    source, _, piece = plan[edge]
    for (at, tail, kept), _ in worlds(plan).items():
        if at == source:
            for fill in itertools.product(*piece.holes()):
                left, line = list(fill), tail
                for kind, told in piece.places():
                    line += told if kind == "sign" else left.pop(0) if kind == "hole" else line[-told]
                yield line, len(tail), kept


def sure(plan, edge):
    """For each place of an edge, its signs, its right distances, and those at which a say may go back, by all windows."""
    piece = plan[edge][2]
    told = [(set(), set(range(1, plan.width + 1)), set(range(1, plan.width + 1))) for _ in range(len(piece))]
    for line, many, kept in ahead_of(plan, edge):
        for index, (signs, copies, says) in enumerate(told):
            if index in piece.flushes():
                kept = 0
            signs.add(line[many + index])
            for distances, most in ((copies, kept), (says, many + index)):
                wrong = {back for back in distances if back > most or line[many + index] != line[many + index - back]}
                distances -= wrong
            kept += 1
    return told


def cheapest_plainly(plan, edge, sign_price, copy_price):
    """The least price of a piece with the same flushes and holes, by all tokens that write the same."""
    piece = plan[edge][2]
    known = sure(plan, edge)
    options = []
    for place, (signs, copies, says) in zip(piece.places(), known):
        if place[0] == "hole":
            options.append([place])
        else:
            options.append([("sign", sign) for sign in signs if len(signs) == 1] + [("copy", back) for back in copies] + [
                ("say", back) for back in sorted(says)[:1]])
    pieces = [Piece.of_places(plan.signs, list(places), piece.flushes()) for places in itertools.product(*options)]
    return min(plain_price(piece, sign_price, copy_price) for piece in pieces)


def plain_price(piece, sign_price, copy_price):
    """The price of a piece, place by place: a copy goes on where the place ahead has the same distance and no flush is between."""
    places = piece.places()
    price = 0
    for index, place in enumerate(places):
        if place[0] != "copy":
            price += sign_price
        elif index == 0 or places[index - 1] != place or index in piece.flushes():
            price += copy_price
    return price


class Prices(unittest.TestCase):
    def test_by_hand(self):
        for tokens, signs, copies in [
            ([("text", "a")], 1, 0), ([("text", "abab")], 4, 0), ([("any", "ab"), ("any", "a")], 2, 0), ([("say", 3, 7)], 7, 0),
            ([("copy", 1, 40)], 0, 1), ([("copy", 1, 2), ("copy", 1, 2)], 0, 1), ([("copy", 1, 2), ("copy", 2, 2)], 0, 2),
            ([("copy", 1, 2), FLUSH, ("copy", 1, 2)], 0, 2), ([FLUSH, ("text", "a"), FLUSH, FLUSH], 1, 0),
            ([("copy", 1, 1), ("text", "a"), ("copy", 1, 1)], 1, 2), ([("copy", 1, 1), ("say", 1, 1), ("copy", 1, 1)], 1, 2),
            ([("any", "ab"), ("text", "ab"), ("copy", 2, 5), ("say", 2, 3), ("copy", 4, 1)], 6, 2),
        ]:
            piece = Piece("ab", tokens)
            self.assertEqual(piece_price(piece), signs + 2 * copies)
            for sign_price, copy_price in [(0, 0), (1, 0), (0, 1), (7, 3), (GREAT, 1), (1, GREAT), (GREAT, GREAT)]:
                told = piece_price(piece, sign_price=sign_price, copy_price=copy_price)
                self.assertEqual((told, type(told)), (signs * sign_price + copies * copy_price, int))

    def test_one_price_or_none(self):
        piece = Piece("ab", [("text", "aba"), ("copy", 1, 2)])
        self.assertEqual([piece_price(piece), piece_price(piece, sign_price=5), piece_price(piece, copy_price=7)], [5, 17, 10])
        with self.assertRaises(TypeError):
            piece_price(piece, 1, 2)
        self.assertEqual(piece.tokens(), [("text", "aba"), ("copy", 1, 2)])

    def test_at_random(self):
        chance = random.Random(100)
        for _ in range(100):
            plan = made_sound(chance)
            for edge in plan.used():
                for prices in [(1, 2), (3, 1), (0, 5)]:
                    self.assertEqual(piece_price(plan[edge][2], sign_price=prices[0], copy_price=prices[1]), plain_price(plan[edge][2], *prices))


class ByHand(unittest.TestCase):
    plan = Plan("ab", 3, "s", {
        "in": ("s", "t", Piece("ab", [("text", "a"), ("any", "ab"), ("any", "b")])), "on": ("t", "t", Piece("ab", [("copy", 3, 3)])),
        "out": ("t", "u", Piece("ab", [("copy", 3, 1), FLUSH, ("text", "a"), ("say", 3, 1), ("copy", 1, 1), FLUSH])),
    })

    def fixed(self, plan, edge):
        return [fixed_sign(plan, edge, index) for index in range(len(plan[edge][2]))]

    def right(self, plan, edge):
        return [right_distances(plan, edge, index) for index in range(len(plan[edge][2]))]

    def test_fixed_signs(self):
        self.assertEqual(self.fixed(self.plan, "in"), ["a", None, "b"])
        self.assertEqual(self.fixed(self.plan, "on"), ["a", None, "b"])
        self.assertEqual(self.fixed(self.plan, "out"), ["a", "a", "b", "b"])
        fixed = self.plan.changed("in", "s", "t", Piece("ab", [("text", "a"), ("any", "b"), ("any", "b")]))
        self.assertEqual(self.fixed(fixed, "on"), ["a", "b", "b"])

    def test_right_distances(self):
        self.assertEqual(self.right(self.plan, "in"), [[], [], []])
        self.assertEqual(self.right(self.plan, "on"), [[3], [3], [3]])
        self.assertEqual(self.right(self.plan, "out"), [[3], [], [], [1]])

    def test_slots_that_are_equal_on_some_rows_only(self):
        same = Piece("ab", [("any", "ab"), ("copy", 1, 1), ("copy", 1, 1)])
        plan = Plan("ab", 3, "s", {"a": ("s", "t", same), "b": ("t", "t", Piece("ab", [("copy", 1, 1)]))})
        self.assertEqual(self.right(plan, "b"), [[1, 2, 3]])
        some = plan.changed("c", "s", "t", Piece("ab", [("any", "ab"), ("text", "b"), ("copy", 1, 1)]))
        self.assertEqual(self.right(some, "b"), [[1, 2]])
        self.assertEqual(self.right(some, "a"), [[], [1], [1, 2]])
        chance = Plan("ab", 3, "s", {"a": ("s", "t", Piece("ab", [("text", "aba")])), "b": ("t", "t", Piece("ab", [("copy", 2, 2), ("text", "b")]))})
        self.assertEqual(self.fixed(chance, "b"), [None, None, "b"])
        self.assertEqual(self.right(chance, "b"), [[2], [2], []])
        even = Plan("ab", 3, "s", {"a": ("s", "t", Piece("ab", [("text", "aba")])), "b": ("t", "t", Piece("ab", [("copy", 2, 2)]))})
        self.assertEqual(self.fixed(even, "b"), ["b", "a"])
        self.assertEqual(self.right(even, "b"), [[2], [2]])

    def test_flushes_ahead(self):
        plan, _ = one_line([("text", "aaa")], [("copy", 1, 1), FLUSH, ("text", "aa"), FLUSH], [("text", "aa"), ("say", 1, 1)])
        self.assertEqual(self.right(plan, "b"), [[1, 2, 3], [], [1]])
        self.assertEqual(self.right(plan, "c"), [[], [1], [1, 2]])

    def test_kept_on_each_row(self):
        plan = Plan("ab", 3, "s", {"a": ("s", "t", Piece("ab", [("text", "aaa")])), "b": ("s", "t", A), "c": ("t", "u", A), "x": ("x", "t", A)})
        self.assertEqual(self.right(plan, "c"), [[1]])
        self.assertEqual(self.right(plan.without("b"), "c"), [[1, 2, 3]])

    def test_holes_have_distances(self):
        plan, _ = one_line([("text", "ba")], [("any", "ab"), ("any", "b")])
        self.assertEqual([self.right(plan, "b"), self.fixed(plan, "b")], [[[], [3]], [None, "b"]])

    def test_holes_keep_their_places(self):
        plan, _ = one_line([("text", "bb")], [("any", "b"), ("text", "bbbb")])
        told, prices = pressed(plan)
        self.assertEqual([told["b"][2].tokens(), prices], [[("any", "b"), ("copy", 1, 4)], {"a": 2, "b": 3}])

    def test_says_where_nothing_else_writes_it(self):
        plan, _ = one_line([("any", "ab")], [FLUSH, ("say", 1, 2), ("copy", 1, 1)])
        self.assertEqual(pressed(plan, copy_price=1)[0]["b"][2].tokens(), [FLUSH, ("say", 1, 1), ("copy", 1, 2)])
        self.assertEqual(pressed(plan, sign_price=0)[0]["b"][2].tokens(), [FLUSH, ("say", 1, 3)])

    def test_a_copy_does_not_go_over_a_flush(self):
        plan, _ = one_line([("text", "ab")], [("text", "abab"), FLUSH], [("text", "ab"), FLUSH, ("text", "ab"), ("text", "abab")])
        told, prices = pressed(plan, sign_price=10, copy_price=1)
        self.assertEqual(told["b"][2].tokens(), [("copy", 2, 4), FLUSH])
        self.assertEqual(told["c"][2].tokens(), [("text", "ab"), FLUSH, ("text", "ab"), ("copy", 2, 4)])
        self.assertEqual(prices, {"a": 20, "b": 1, "c": 41})
        self.assertEqual(beginning_prices(plan, "c", sign_price=10, copy_price=1), [0, 10, 20, 30, 40, 41, 41, 41, 41])
        plan, _ = one_line([("text", "aaa")], [("text", "a"), FLUSH, ("text", "a"), ("copy", 1, 1), FLUSH, ("text", "a")])
        self.assertEqual(beginning_prices(plan, "b", copy_price=0), [0, 0, 1, 1, 2])

    def test_forty_signs(self):
        plan, _ = one_line([("any", "ab"), ("text", "ab")], [("text", "ab" * 20)], [("copy", 2, 40)], width=12)
        self.assertEqual([beginning_prices(plan, "b"), pressed(plan)[1]], [[0, 1] + [2] * 39, {"a": 3, "b": 2, "c": 2}])
        self.assertEqual(pressed(plan)[0]["c"][2].tokens(), [("copy", 2, 40)])
        self.assertEqual(len(pressed(plan)[0]["b"][2]), 40)
        far, _ = one_line([("any", "ab")] * 12, [("copy", 12, 40)], width=12)
        self.assertEqual(beginning_prices(far, "b", sign_price=1, copy_price=7), [0, 1, 2, 3, 4, 5, 6] + [7] * 34)

    def test_edges_that_no_row_has(self):
        odd = Piece("ab", [("text", "a"), ("text", "a"), ("copy", 3, 1)])
        plan = self.plan.changed("x", "x", "t", odd)
        told, prices = pressed(plan)
        self.assertEqual(told["x"], ("x", "t", odd))
        self.assertEqual(list(prices), ["in", "on", "out"])

    def test_no_edge(self):
        plan = Plan("ab", 3, "q", {"a": ("s", "t", A + A)})
        self.assertEqual(pressed(plan), (plan, {}))

    def test_prices(self):
        plan, _ = one_line([("text", "ab")], [("text", "abbb"), ("any", "ab")])
        for sign_price, copy_price, told in [
            (0, 0, 0), (0, 9, 0), (1, 0, 1), (1, 1, 3), (1, 2, 5), (2, 3, 8), (1, 3, 5), (1, 4, 5), (3, 4, 11), (GREAT, 1, GREAT + 2),
            (1, GREAT, 5), (GREAT, GREAT, 3 * GREAT),
        ]:
            got, prices = pressed(plan, sign_price=sign_price, copy_price=copy_price)
            self.assertEqual(prices["b"], told, (sign_price, copy_price))
            self.assertEqual(piece_price(got["b"][2], sign_price=sign_price, copy_price=copy_price), told)
        self.assertEqual([pressed(plan)[1]["b"], pressed(plan, sign_price=3)[1]["b"], pressed(plan, copy_price=0)[1]["b"]], [5, 7, 1])
        for call in (pressed, lambda *prices: beginning_prices(prices[0], "b", *prices[1:])):
            with self.assertRaises(TypeError):
                call(plan, 1, 2)


class Errors(unittest.TestCase):
    plan = Plan("ab", 3, "s", {"a": ("s", "t", A + A), "x": ("x", "y", A)})

    def test_unsound_first(self):
        plan, _ = one_line([("text", "a"), ("copy", 3, 4)])
        calls = [lambda: pressed(plan)] + [lambda edge=edge: beginning_prices(plan, edge) for edge in ("a", "z")]
        calls += [lambda call=call, edge=edge, at=at: call(plan, edge, at)
                  for call in (fixed_sign, right_distances) for edge in ("a", "z") for at in (0, 99)]
        for call in calls:
            error = raised(self, Unsound, call)
            self.assertEqual((error.edge, error.index), ("a", 1))

    def test_unknown_unreached_and_no_place(self):
        for name in ("z", "s", "t"):
            self.assertEqual(raised(self, Unknown, beginning_prices, self.plan, name).name, name)
            for call in (fixed_sign, right_distances):
                for index in (0, 9, -1):
                    self.assertEqual(raised(self, Unknown, call, self.plan, name, index).name, name)
        self.assertEqual(raised(self, Unreached, beginning_prices, self.plan, "x").name, "x")
        for call in (fixed_sign, right_distances):
            for index in (0, 9):
                self.assertEqual(raised(self, Unreached, call, self.plan, "x", index).name, "x")
            for index in (-1, -2, 2, 3, 10 ** 30, -10 ** 30):
                error = raised(self, NoPlace, call, self.plan, "a", index)
                self.assertEqual((error.edge, error.index), ("a", index))
        self.assertEqual(piece_price(Piece("ab", [("copy", 12, 3)])), 2)

    def test_unsound_plans(self):
        chance = random.Random(101)
        for _ in range(60):
            plan = made_plan(chance)
            if unsound(plan):
                error = raised(self, Unsound, pressed, plan)
                self.assertEqual((error.edge, error.index), unsound(plan)[0])


class AtRandom(unittest.TestCase):
    PRICES = [(1, 2), (1, 1), (3, 4), (0, 1), (2, 0), (1, GREAT), (GREAT, 1), (0, 0), (5, 7)]

    def plans(self, chance, many):
        for at in range(many):
            plan = made_sound(chance, edges="abc", **[
                {"width": 2, "filled": True}, {"width": 3, "filled": True, "most": 3}, {"signs": "abc", "width": 2, "most": 3}, {"width": 4, "most": 2}][at % 4])
            if worlds(plan, 300) is not None:
                yield plan

    def test_signs_and_distances(self):
        chance = random.Random(102)
        seen = {"fixed": 0, "open": 0, "some": 0}
        for plan in self.plans(chance, 160):
            for edge in plan.used():
                for index, (signs, copies, _) in enumerate(sure(plan, edge)):
                    self.assertEqual(fixed_sign(plan, edge, index), "".join(signs) if len(signs) == 1 else None)
                    self.assertEqual(right_distances(plan, edge, index), sorted(copies))
                    self.assertEqual(right_distances(turned(plan), edge, index), sorted(copies))
                    check_new(self, lambda: right_distances(plan, edge, index))
                    seen["fixed" if len(signs) == 1 else "open"] += 1
                    seen["some"] += len(copies) > 1
        self.assertGreater(min(seen.values()), 50, seen)

    def test_pressed(self):
        chance = random.Random(103)
        for at, plan in enumerate(self.plans(chance, 120)):
            sign_price, copy_price = self.PRICES[at % len(self.PRICES)]
            before = plan.edges()
            told = check_new(self, lambda: pressed(plan, sign_price=sign_price, copy_price=copy_price))
            got, prices = told
            self.assertEqual((type(told), list(prices)), (tuple, plan.used()))
            self.assertEqual(pressed(turned(plan), sign_price=sign_price, copy_price=copy_price), told)
            self.assertEqual((got.signs, got.width, got.start, sorted(got.edges())), (plan.signs, plan.width, plan.start, sorted(before)))
            self.assertEqual([compare(plan, got)[0], compare(got, plan)[0], unsound(got)], ["alike", "alike", []])
            for edge in plan.edges():
                if edge in prices:
                    self.check_piece(plan, edge, got[edge], sign_price, copy_price, prices[edge])
                else:
                    self.assertEqual(got[edge], plan[edge])
            again = pressed(got, sign_price=sign_price, copy_price=copy_price)
            self.assertEqual(again[1], prices)
            self.assertEqual(plan.edges(), before)

    def check_piece(self, plan, edge, got, sign_price, copy_price, price):
        source, target, piece = got
        old = plan[edge][2]
        self.assertEqual((source, target, piece.flushes(), len(piece)), (*plan[edge][:2], old.flushes(), len(old)))
        self.assertEqual(piece, piece.merged())
        opened = [[place if place[0] == "hole" else None for place in one.places()] for one in (piece, old)]
        self.assertEqual(opened[0], opened[1])
        self.assertEqual(plain_price(piece, sign_price, copy_price), price)
        if len(old) - len(old.holes()) <= 6:
            self.assertEqual(cheapest_plainly(plan, edge, sign_price, copy_price), price)
        for place, (signs, copies, says) in zip(piece.places(), sure(plan, edge)):
            if place[0] == "sign":
                self.assertEqual({place[1]}, signs)
            elif place[0] != "hole":
                self.assertIn(place[1], copies if place[0] == "copy" else says)

    def test_no_other_alike_plan_is_cheaper(self):
        """A search through all tokens for small pieces, alike or not as compare tells."""
        chance = random.Random(104)
        seen = 0
        for _ in range(60):
            plan = made_sound(chance, edges="ab", width=2, most=2, filled=True)
            prices = pressed(plan)[1]
            for edge in plan.used()[:2]:
                source, target, piece = plan[edge]
                if len(piece) - len(piece.holes()) > 2:
                    continue
                every = [("sign", "a"), ("sign", "b"), ("copy", 1), ("copy", 2), ("say", 1), ("say", 2)]
                best = []
                for places in itertools.product(*[[place] if place[0] == "hole" else every for place in piece.places()]):
                    other = plan.changed(edge, source, target, Piece.of_places("ab", list(places), piece.flushes()))
                    if not unsound(other) and compare(plan, other)[0] == "alike":
                        best.append(piece_price(other[edge][2]))
                self.assertEqual(min(best), prices[edge])
                seen += len(best) > 1
        self.assertGreater(seen, 15)

    def test_beginnings(self):
        chance = random.Random(105)
        for at, plan in enumerate(self.plans(chance, 100)):
            sign_price, copy_price = self.PRICES[at % len(self.PRICES)]
            for edge in plan.used():
                numbers = beginning_prices(plan, edge, sign_price=sign_price, copy_price=copy_price)
                source, target, piece = plan[edge]
                self.assertEqual((len(numbers), numbers[0]), (len(piece) + 1, 0))
                self.assertEqual(numbers[-1], pressed(plan, sign_price=sign_price, copy_price=copy_price)[1][edge])
                for many in range(1, len(piece)):
                    # What the edge writes of its first signs only is a plan of its own.
                    short = plan.changed("zz", source, "zzend", piece.part(0, many))
                    self.assertEqual(pressed(short, sign_price=sign_price, copy_price=copy_price)[1]["zz"], numbers[many])
                self.assertEqual(beginning_prices(turned(plan), edge, sign_price=sign_price, copy_price=copy_price), numbers)
                check_new(self, lambda: beginning_prices(plan, edge))

    def test_texts_stay(self):
        chance = random.Random(106)
        for _ in range(40):
            plan = made_sound(chance, filled=True)
            got = pressed(plan, copy_price=1)[0]
            for row in rows_upto(plan, 4):
                fill = [chance.choice(choice) for name in row for choice in plan[name][2].holes()]
                self.assertEqual(texts(got, row, fill), texts(plan, row, fill))

    def test_sixteen_edges(self):
        for kind in ("any", "fixed", "copies"):
            plan = sixteen(kind)
            got, prices = pressed(plan)
            self.assertEqual(len(prices), 16)
            self.assertEqual([piece_price(got[edge][2]) for edge in prices], list(prices.values()))
            self.assertTrue(all(price <= piece_price(plan[edge][2]) for edge, price in prices.items()))
            self.assertEqual(compare(plan, got)[0], "alike")
            self.assertEqual(beginning_prices(plan, "o")[-1], prices["o"])
            self.assertIn(plan["o"][2].places()[0][1], right_distances(plan, "o", 0))
            self.assertEqual(fixed_sign(plan, "o", 38) is None, kind != "fixed")


if __name__ == "__main__":
    unittest.main()
