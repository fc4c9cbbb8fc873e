import itertools
import random
import unittest

from making import check_new, hangings, made_plan, made_sound, one_line, raised, sixteen, turned
from oddities import ODD
from test_pieces import FLUSH
from windowcuts.counts import unsound
from windowcuts.damage import Damage, lost_marks, state_marks
from windowcuts.errors import NoPlace, Unknown, Unreached, Unsound
from windowcuts.likes import compare
from windowcuts.pieces import Piece
from windowcuts.plans import Plan
from windowcuts.rows import holes, rows_upto, texts
from windowcuts.spelling import cheapest_spelling, is_spelling, spelled

A = Piece("ab", [("text", "a")])
SHORT, _ = one_line([("text", "a"), ("copy", 3, 4)])


def copies_of(plan):
    return [(edge, index) for edge in plan.used() for index, place in enumerate(plan[edge][2].places()) if place[0] == "copy"]


def said_by_hand(plan, places):
    edges = {}
    for edge, (source, target, piece) in plan.edges().items():
        told = [("say", place[1]) if (edge, index) in places else place for index, place in enumerate(piece.places())]
        edges[edge] = (source, target, Piece.of_places(plan.signs, told, piece.flushes()))
    return Plan(plan.signs, plan.width, plan.start, edges)


def spoilt_by_paths(plan, marks):
    """All places that are spoilt for one of the marks, followed sign by sign on all paths."""
    return {(edge, index) for mark in set(marks) for leads in hangings(plan, mark).values() for edge, indexes, _ in leads for index in indexes}


def price_of(prices, places):
    return sum(prices.get(edge, 1) for edge, _ in places)


def least_price(plan, marks, wished, prices):
    """The least price of copies that are enough, by a search through all sets of them."""
    copies = sorted(spoilt_by_paths(plan, marks))
    best = None
    for many in range(len(copies) + 1):
        for places in itertools.combinations(copies, many):
            price = price_of(prices, places)
            if best is None or price < best:
                if not spoilt_by_paths(said_by_hand(plan, places), marks) & set(wished):
                    best = price
    return best


def is_way(plan, marks, wished, way):
    """Whether a tuple of the right form is a way, as the document says it, sign by sign."""
    amount, mark, path, steps = way
    if amount < 1 or mark not in marks or not steps:
        return False
    # Where each sign of the path comes from: a tuple (k, index), or a slot ahead of it.
    line = [("slot", slot) for slot in range(plan.width, 0, -1)]
    ahead = {}
    state = mark[0]
    for k, edge in enumerate(path):
        if edge not in plan.out(state):
            return False
        for index, (kind, told) in enumerate(plan[edge][2].places()):
            if kind == "copy":
                ahead[k, index] = line[-told]
            line.append((k, index))
        state = plan[edge][1]
    at = ("slot", mark[1])
    for step in steps:
        if step not in ahead or ahead[step] != at:
            return False
        at = step
    return at[0] == len(path) - 1 and (path[-1], at[1]) in wished


def is_right(plan, marks, wished, prices, thing):
    """Whether a tuple of the right form is such a one, in the words of the document."""
    price, places, ways = thing
    if places != sorted(set(places)) or not set(places) <= set(copies_of(plan)) or price != price_of(prices, places):
        return False
    if spoilt_by_paths(said_by_hand(plan, places), marks) & set(wished):
        return False
    if not all(is_way(plan, marks, wished, way) for way in ways) or sum(way[0] for way in ways) != price:
        return False
    loads = {}
    for amount, _, path, steps in ways:
        for k, index in steps:
            loads[path[k], index] = loads.get((path[k], index), 0) + amount
    return all(load <= prices.get(place[0], 1) for place, load in loads.items())


class Spelled(unittest.TestCase):
    plan = Plan("ab", 3, "s", {
        "in": ("s", "t", Piece("ab", [("any", "ab"), ("text", "ab"), ("copy", 2, 1), ("copy", 2, 1)])),
        "on": ("t", "t", Piece("ab", [("copy", 2, 3), FLUSH, FLUSH, ("text", "a"), ("text", "b"), ("say", 1, 1), ("copy", 1, 1)])),
        "x": ("x", "t", Piece("ab", [("text", "a"), ("text", "a"), ("copy", 1, 1), ("copy", 1, 1)])),
    })

    def test_no_place(self):
        told = spelled(self.plan, [])
        self.assertEqual([told[edge][2].tokens() for edge in ("in", "on", "x")], [
            [("any", "ab"), ("text", "ab"), ("copy", 2, 2)],
            [("copy", 2, 3), FLUSH, ("text", "ab"), ("say", 1, 1), ("copy", 1, 1)], [("text", "aa"), ("copy", 1, 2)]])
        self.assertEqual([told.signs, told.width, told.start, told.states()], ["ab", 3, "s", ["s", "t", "x"]])

    def test_some_and_twice(self):
        for places in [[("on", 1), ("in", 4), ("on", 6)], [("on", 6), ("on", 1), ("on", 6), ("in", 4), ("in", 4)]]:
            before = list(places)
            told = spelled(self.plan, places)
            self.assertEqual([told[edge][2].tokens() for edge in ("in", "on")], [
                [("any", "ab"), ("text", "ab"), ("copy", 2, 1), ("say", 2, 1)],
                [("copy", 2, 1), ("say", 2, 1), ("copy", 2, 1), FLUSH, ("text", "ab"), ("say", 1, 2)]])
            self.assertEqual(places, before)

    def test_all(self):
        told = spelled(self.plan, copies_of(self.plan))
        self.assertEqual([told[edge][2].tokens() for edge in ("in", "on", "x")], [
            [("any", "ab"), ("text", "ab"), ("say", 2, 2)], [("say", 2, 3), FLUSH, ("text", "ab"), ("say", 1, 2)], [("text", "aa"), ("copy", 1, 2)]])
        self.assertEqual(Damage(told, state_marks(told, "t")).places(), [])

    def test_no_place_errors(self):
        for places, told in [
            ([("in", 5)], ("in", 5)), ([("in", -1)], ("in", -1)), ([("in", 0)], ("in", 0)), ([("in", 1)], ("in", 1)), ([("on", 5)], ("on", 5)),
            ([("on", 0), ("on", 3), ("in", 99)], ("on", 3)), ([("on", 0), ("in", 99), ("on", 3)], ("in", 99)), ([("on", 10 ** 30)], ("on", 10 ** 30)),
        ]:
            error = raised(self, NoPlace, spelled, self.plan, places)
            self.assertEqual((error.edge, error.index), told)

    def test_errors_in_order(self):
        error = raised(self, Unsound, spelled, SHORT, [("zz", 0), ("a", 99)])
        self.assertEqual((error.edge, error.index), ("a", 1))
        for places, kind, name in [
            ([("in", 99), ("zz", 0), ("s", 0), ("x", 2)], Unknown, "zz"), ([("x", 2), ("t", 0)], Unknown, "t"),
            ([("in", 99), ("x", 2)], Unreached, "x"), ([("x", 99)], Unreached, "x"),
        ]:
            self.assertEqual(raised(self, kind, spelled, self.plan, places).name, name)

    def test_texts_stay(self):
        chance = random.Random(120)
        seen = 0
        for _ in range(120):
            plan = made_sound(chance, filled=True)
            copies = copies_of(plan)
            places = chance.choices(copies, k=chance.randint(0, 4)) if copies else []
            before = plan.edges()
            told = spelled(plan, places)
            self.assertEqual(plan.edges(), before)
            self.assertEqual(told, said_by_hand(plan, places))
            self.assertEqual([unsound(told), compare(plan, told)[0]], [[], "alike"])
            for row in rows_upto(plan, 3):
                fill = [chance.choice(choice) for choice in holes(plan, row)]
                self.assertEqual(texts(told, row, fill), texts(plan, row, fill))
            marks = [mark for state in plan.reached() for mark in state_marks(plan, state)]
            self.assertFalse(set(Damage(told, marks).places()) & set(places))
            seen += len(set(places))
        self.assertGreater(seen, 100)


class Cheapest(unittest.TestCase):
    def check(self, plan, marks, wished, prices):
        """What is told keeps all that the document says, and is told to be right; nothing cheaper is enough."""
        before = plan.edges(), list(marks), list(wished), dict(prices)
        told = cheapest_spelling(plan, marks, wished, prices)
        self.assertEqual([type(told)] + [type(part) for part in told], [tuple, int, list, list])
        self.assertTrue(is_right(plan, marks, wished, prices, told), told)
        self.assertIs(is_spelling(plan, marks, wished, prices, told), True)
        self.assertEqual(check_new(self, lambda: cheapest_spelling(plan, marks, wished, prices)), told)
        other = {edge: prices[edge] for edge in list(prices)[::-1]}
        self.assertEqual(cheapest_spelling(turned(plan), marks, wished, other), told)
        self.assertEqual((plan.edges(), marks, wished, prices), before)
        return told

    def test_one_place(self):
        plan = Plan("ab", 3, "s", {
            "in": ("s", "t", Piece("ab", [("any", "ab"), ("text", "ab")])), "on": ("t", "u", Piece("ab", [("copy", 3, 1), ("text", "b"), ("copy", 2, 1)])),
            "end": ("u", "v", Piece("ab", [("copy", 1, 2)])),
        })
        marks = lost_marks(plan, "in")
        for wished, prices, price, places in [
            ([("on", 0)], {}, 1, [("on", 0)]), ([("on", 2)], {"on": 7}, 7, [("on", 0)]), ([("end", 1)], {}, 1, None),
            ([("end", 1)], {"on": 2}, 1, None), ([("end", 1)], {"end": 2}, 1, None), ([("end", 1), ("on", 2)], {"end": 2}, 1, [("on", 0)]),
            ([("end", 0), ("end", 1), ("on", 0)], {"end": 9, "on": 1000}, 1000, [("on", 0)]), ([("end", 1)], {"end": 0}, 0, None),
        ]:
            told = self.check(plan, marks, wished, prices)
            self.assertEqual(told[0], price)
            if places is not None:
                self.assertEqual(told[1], places)
        self.assertEqual(self.check(plan, marks, [("on", 0)], {"on": 4}), (4, [("on", 0)], [(4, ("t", 3), ["on"], [(0, 0)])]))

    def test_nothing_to_be_said(self):
        plan, _ = one_line([("any", "ab"), ("text", "ab")], [("copy", 1, 1), ("text", "b"), ("say", 3, 1)], [("copy", 3, 1)])
        for marks, wished in [
            ([], copies_of(plan)), (lost_marks(plan, "a"), []), ([("t", 2)], [("b", 0), ("c", 0)]), (lost_marks(plan, "a"), [("b", 1), ("b", 2)]),
            (lost_marks(plan, "a"), [("a", 0), ("a", 1)]), ([("u", 1), ("u", 2)], [("b", 0), ("c", 0)]), ([], []), ([("s", 1)], copies_of(plan)),
        ]:
            self.assertEqual(self.check(plan, marks, wished, {}), (0, [], []))

    def test_prices_of_nought(self):
        plan, _ = one_line([("any", "ab")], [("copy", 1, 1)], [("copy", 1, 2)])
        told = self.check(plan, [("t", 1)], [("c", 0), ("c", 1)], {"b": 0})
        self.assertEqual((told[0], told[2]), (0, []))
        self.assertIn(("b", 0), told[1])
        self.assertEqual(self.check(plan, [("t", 1)], [("c", 0), ("c", 1)], {"c": 0})[0], 0)
        self.assertEqual(self.check(plan, [("t", 1)], [("c", 0), ("c", 1)], {"b": 5, "c": 3})[:2], (3, [("c", 0)]))

    def test_prices_of_a_thousand(self):
        plan, _ = one_line([("any", "ab")], [("copy", 1, 1)], [("copy", 2, 1), ("copy", 2, 1)])
        told = self.check(plan, [("t", 1)], [("c", 0), ("c", 1)], {"b": 1000, "c": 999})
        self.assertEqual(told[:2], (1998, [("c", 0), ("c", 1)]))
        told = self.check(plan, [("t", 1)], [("c", 0), ("c", 1)], {"b": 999, "c": 1000})
        self.assertEqual(told[:2], (1999, [("b", 0), ("c", 0)]))

    def test_marks_and_wished_places_twice(self):
        plan, _ = one_line([("any", "ab"), ("text", "b")], [("copy", 2, 2)])
        once = self.check(plan, [("t", 1), ("t", 2)], [("b", 0), ("b", 1)], {})
        self.assertEqual(once[:2], (2, [("b", 0), ("b", 1)]))
        self.assertEqual(self.check(plan, [("t", 2), ("t", 1), ("t", 2)], [("b", 1), ("b", 0), ("b", 1), ("b", 1)], {}), once)

    def test_rings(self):
        plan = Plan("ab", 4, "s", {
            "in": ("s", "t", Piece("ab", [("any", "ab")] * 4)), "on": ("t", "t", Piece("ab", [("copy", 4, 1), ("copy", 3, 1)])),
            "off": ("t", "u", Piece("ab", [("copy", 1, 1)])),
        })
        told = self.check(plan, [("t", 4)], [("off", 0)], {"on": 3, "off": 8})
        self.assertEqual(told[0], least_price(plan, [("t", 4)], [("off", 0)], {"on": 3, "off": 8}))
        # A mark's sign may get to the wished place only after the ring has been gone round.
        self.assertGreater(max(len(way[2]) for way in told[2]), 1)

    def test_against_all_sets_of_copies(self):
        chance = random.Random(121)
        seen = {"nothing": 0, "one": 0, "more": 0, "ways": 0}
        for at in range(1000):
            plan = made_sound(chance, **[{"filled": True, "edges": "abc"}, {"filled": True, "width": 4, "edges": "abc"},
                                         {"filled": True, "onward": True, "edges": "abcd", "states": "stuv"}][at % 3])
            marks = [mark for state in plan.reached() for mark in state_marks(plan, state) if chance.random() < 0.4]
            spoilt = spoilt_by_paths(plan, marks)
            if len(spoilt) > 8:
                continue
            places = [(edge, index) for edge in plan.used() for index in range(len(plan[edge][2]))]
            wished = [place for place in places if chance.random() < (0.5 if place in spoilt else 0.1)]
            prices = {edge: chance.choice([0, 1, 2, 5, 1000]) for edge in plan.used() if chance.random() < 0.6}
            chance.shuffle(marks)
            chance.shuffle(wished)
            told = self.check(plan, marks + marks[:1], wished + wished[:1], prices)
            self.assertEqual(told[0], least_price(plan, marks, wished, prices))
            seen["nothing" if not told[1] else "one" if len(told[1]) == 1 else "more"] += 1
            seen["ways"] += any(len(steps) > 1 for _, _, _, steps in told[2])
        self.assertGreater(min(seen.values()), 40, seen)

    def test_sixteen_edges(self):
        for kind in ("any", "copies", "fixed"):
            plan = sixteen(kind)
            marks = [mark for state in plan.reached() for mark in state_marks(plan, state)]
            places = [(edge, index) for edge in plan.edges() for index in range(len(plan[edge][2]))]
            for wished in (places, places[::9], [("o", 33), ("a", 35)]):
                for prices in ({}, {edge: 7 * at for at, edge in enumerate(plan.edges())}):
                    told = cheapest_spelling(plan, marks, wished, prices)
                    self.assertIs(is_spelling(plan, marks, wished, prices, told), True)
                    self.assertEqual(price_of(prices, told[1]), told[0])
                    spoilt = Damage(spelled(plan, told[1]), marks).places()
                    self.assertFalse(set(spoilt) & set(wished))


class Judged(unittest.TestCase):
    plan = Plan("ab", 3, "s", {
        "in": ("s", "t", Piece("ab", [("any", "ab"), ("text", "ab")])), "on": ("t", "u", Piece("ab", [("copy", 3, 1), ("text", "b"), ("copy", 2, 1)])),
        "end": ("u", "v", Piece("ab", [("copy", 1, 2)])), "oth": ("t", "u", Piece("ab", [("text", "abb")])), "x": ("x", "y", Piece("ab", [("copy", 1, 1)])),
    })
    marks, wished, prices = [("t", 3), ("t", 1)], [("end", 1), ("on", 2)], {"on": 2, "end": 3}
    right = (2, [("on", 0)], [(2, ("t", 3), ["on"], [(0, 0), (0, 2)])])

    def holds(self, thing, **other):
        told = {"plan": self.plan, "marks": self.marks, "wished": self.wished, "prices": self.prices, **other}
        got = is_spelling(told["plan"], told["marks"], told["wished"], told["prices"], thing)
        self.assertIs(type(got), bool)
        return got

    def test_what_is_told(self):
        self.assertTrue(self.holds(cheapest_spelling(self.plan, self.marks, self.wished, self.prices)))
        self.assertTrue(self.holds(self.right))
        for ways in [
            [(1, ("t", 3), ["on"], [(0, 0), (0, 2)])] * 2, [(2, ("t", 3), ["on", "end"], [(0, 0), (0, 2), (1, 0), (1, 1)])],
            [(1, ("t", 3), ["on"], [(0, 0), (0, 2)]), (1, ("t", 3), ["on", "end"], [(0, 0), (0, 2), (1, 0), (1, 1)])],
        ]:
            self.assertTrue(self.holds((2, [("on", 0)], ways)))
            self.assertTrue(self.holds((2, [("on", 2)], ways)))

    def test_prices_and_places(self):
        ways = self.right[2]
        for price, places in [
            (1, [("on", 0)]), (3, [("on", 0)]), (0, [("on", 0)]), (-2, [("on", 0)]), (True, [("on", 0)]), (4, [("on", 0), ("on", 2)]),
            (2, []), (0, []), (2, [("on", 0), ("on", 0)]), (4, [("on", 0), ("on", 0)]), (4, [("on", 2), ("on", 0)]), (2, [("on", 1)]),
            (2, [("on", 3)]), (2, [("on", -3)]), (3, [("end", 1)]), (2, [("zz", 0)]), (2, [["on", 0]]), (2, [("on", False)]), (2, [("on", 0, 0)]),
            (2, [("on",)]), (2, (("on", 0),)), (2, {("on", 0): 1}), ("2", [("on", 0)]), (None, [("on", 0)]), (1, [("x", 0)]), (3, [("on", 0), ("x", 0)]),
        ]:
            self.assertFalse(self.holds((price, places, ways)), (price, places))

    def test_ways(self):
        amount, mark, path, steps = self.right[2][0]
        for way in [
            (1, mark, path, steps), (3, mark, path, steps), (0, mark, path, steps), (-2, mark, path, steps), (True, mark, path, steps),
            ("2", mark, path, steps), (2, ("t", 1), path, steps), (2, ("t", 2), path, steps), (2, ("u", 1), path, steps), (2, ["t", 3], path, steps),
            (2, ("t", 3, 0), path, steps), (2, "t3", path, steps), (2, None, path, steps), (2, mark, ["oth"], steps), (2, mark, ["on", "end"], steps),
            (2, mark, ["end"], steps), (2, mark, ["on", "on"], steps), (2, mark, [], steps), (2, mark, ("on",), steps), (2, mark, ["zz"], steps),
            (2, mark, [["on"]], steps), (2, mark, "on", steps), (2, mark, path, []), (2, mark, path, [(0, 0)]), (2, mark, path, [(0, 2)]),
            (2, mark, path, [(0, 2), (0, 0)]), (2, mark, path, [(0, 0), (0, 0), (0, 2)]), (2, mark, path, [(0, 0), (0, 1)]),
            (2, mark, path, [(False, 0), (0, 2)]), (2, mark, path, [(0, False), (0, 2)]), (2, mark, path, [(0, 0), (0, 3)]),
            (2, mark, path, [(0, 0), (1, 2)]), (2, mark, path, [(-1, 0), (-1, 2)]), (2, mark, path, [(0, -3), (0, -1)]), (2, mark, path, ((0, 0), (0, 2))),
            (2, mark, path, [[0, 0], (0, 2)]), (2, mark, path, [(0, 0, 0), (0, 2)]), (2, mark, path, [0, 2]), (2, mark, path), (2, mark, path, steps, 1),
            [2, mark, path, steps], (2, mark, ["on", "end"], [(0, 0), (0, 2), (1, 0)]), (2, mark, ["on", "end"], [(0, 0), (0, 2), (1, 1)]), None, (), 2,
        ]:
            self.assertFalse(self.holds((2, [("on", 0)], [way])), way)
        for ways in [[], self.right[2] * 2, tuple(self.right[2]), self.right[2] + [None], [(3, mark, path, steps), (-1, mark, path, steps)]]:
            self.assertFalse(self.holds((2, [("on", 0)], ways)))

    def test_true_for_one(self):
        plan, _ = one_line([("any", "ab")], [("text", "a"), ("copy", 2, 1)], [("copy", 1, 1)])
        marks, wished = [("t", 1)], [("b", 1), ("c", 0)]
        right = (1, [("b", 1)], [(1, ("t", 1), ["b"], [(0, 1)])])
        self.assertTrue(self.holds(right, plan=plan, marks=marks, wished=wished, prices={}))
        far = (1, [("b", 1)], [(1, ("t", 1), ["b", "c"], [(0, 1), (1, 0)])])
        self.assertTrue(self.holds(far, plan=plan, marks=marks, wished=wished, prices={}))
        for thing in [
            (True, right[1], right[2]), (1, [("b", True)], right[2]), (1, right[1], [(True, ("t", 1), ["b"], [(0, 1)])]),
            (1, right[1], [(1, ("t", True), ["b"], [(0, 1)])]), (1, right[1], [(1, ("t", 1), ["b"], [(0, True)])]),
            (1, right[1], [(1, ("t", 1), ["b"], [(False, 1)])]), (1, right[1], [(1, ("t", 1), ["b", "c"], [(0, 1), (True, 0)])]),
            (1, right[1], [(1, ("t", 1), ["b", "c"], [(0, 1), (1, False)])]),
        ]:
            self.assertFalse(self.holds(thing, plan=plan, marks=marks, wished=wished, prices={}), thing)

    def test_loads(self):
        plan, _ = one_line([("any", "ab")], [("copy", 1, 1)], [("copy", 1, 1), ("copy", 2, 1)])
        marks, wished, prices = [("t", 1)], [("c", 0), ("c", 1)], {"b": 3, "c": 2}
        one, two = (["b", "c"], [(0, 0), (1, 0)]), (["b", "c"], [(0, 0), (1, 1)])
        for first, second, right in [(2, 1, True), (1, 2, True), (3, None, False), (None, 3, False)]:
            ways = [(many, ("t", 1), *way) for many, way in ((first, one), (second, two)) if many]
            self.assertIs(self.holds((3, [("b", 0)], ways), plan=plan, marks=marks, wished=wished, prices=prices), right)
        # Said at both places of c, which costs more than need be, no ways can show it.
        self.assertFalse(self.holds((4, [("c", 0), ("c", 1)], [(2, ("t", 1), *one), (2, ("t", 1), *two)]), plan=plan, marks=marks, wished=wished, prices=prices))

    def test_other_marks(self):
        plan, _ = one_line([("any", "ab"), ("any", "ab")], [("copy", 1, 1), ("copy", 3, 1)])
        told = {"plan": plan, "wished": [("b", 0), ("b", 1)], "prices": {}}
        first, second = (1, ("t", 1), ["b"], [(0, 0)]), (1, ("t", 2), ["b"], [(0, 1)])
        self.assertTrue(self.holds((1, [("b", 0)], [first]), marks=[("t", 1)], **told))
        self.assertFalse(self.holds((1, [("b", 0)], [second]), marks=[("t", 1)], **told))
        self.assertTrue(self.holds((1, [("b", 1)], [second]), marks=[("t", 2)], **told))
        self.assertTrue(self.holds((2, [("b", 0), ("b", 1)], [second, first]), marks=[("t", 2), ("t", 1)], **told))

    def test_a_place_of_the_last_edge(self):
        ring = Plan("ab", 1, "s", {"in": ("s", "t", A), "on": ("t", "t", Piece("ab", [("copy", 1, 1)]))})
        told = {"plan": ring, "marks": [("t", 1)], "wished": [("on", 0)], "prices": {}}
        self.assertTrue(self.holds((1, [("on", 0)], [(1, ("t", 1), ["on"], [(0, 0)])]), **told))
        self.assertFalse(self.holds((1, [("on", 0)], [(1, ("t", 1), ["on", "on"], [(0, 0)])]), **told))

    def test_a_place_that_stands_twice_in_a_way(self):
        ring = Plan("ab", 1, "s", {"in": ("s", "t", A), "on": ("t", "t", Piece("ab", [("copy", 1, 1)])), "end": ("t", "u", Piece("ab", [("copy", 1, 1)]))})
        marks, wished = [("t", 1)], [("end", 0)]
        twice = (["on", "on", "end"], [(0, 0), (1, 0), (2, 0)])
        for price, right in [(1, False), (2, True), (3, True)]:
            thing = (1, [("end", 0)], [(1, ("t", 1), *twice)])
            self.assertIs(self.holds(thing, plan=ring, marks=marks, wished=wished, prices={"on": price}), right)
        self.assertTrue(self.holds((0, [], []), plan=ring, marks=[], wished=wished, prices={}))
        self.assertFalse(self.holds((0, [], []), plan=ring, marks=marks, wished=wished, prices={}))

    def test_places_of_no_price(self):
        free = {"on": 0, "x": 0, "end": 3}
        self.assertTrue(self.holds((0, [("on", 0)], []), prices={"on": 0, "end": 3}))
        self.assertTrue(self.holds((0, [("on", 0), ("on", 2)], []), prices={"on": 0, "end": 3}))
        for places in [[("on", 2), ("on", 0)], [("on", 0), ("on", 0)], [("on", 0), ("on", 2), ("on", 0)], [("on", 0), ("on", 2), ("on", 2)]]:
            self.assertFalse(self.holds((0, places, []), prices={"on": 0, "end": 3}))
        error = raised(self, Unreached, is_spelling, self.plan, self.marks, self.wished, free, (0, [], []))
        self.assertEqual(error.name, "x")

    def test_other_values(self):
        for thing in ODD:
            self.assertFalse(self.holds(thing))
            for at in range(3):
                parts = list(self.right)
                parts[at] = thing
                if type(thing) is not int or thing != 2 or at > 0:
                    self.assertFalse(self.holds(tuple(parts)), repr(parts)[:80])
            self.assertFalse(self.holds((2, [thing], self.right[2])))
            self.assertFalse(self.holds((2, self.right[1] + [thing], self.right[2])))
            self.assertFalse(self.holds((2, self.right[1], [thing])))
            self.assertFalse(self.holds((2, self.right[1], self.right[2] + [thing])))
            for at in range(4):
                way = list(self.right[2][0])
                way[at] = thing
                if type(thing) is not int or thing != 2 or at > 0:
                    self.assertFalse(self.holds((2, self.right[1], [tuple(way)])), repr(way)[:80])
            self.assertFalse(self.holds((2, self.right[1], [(2, ("t", thing), *self.right[2][0][2:])])))
            self.assertFalse(self.holds((2, self.right[1], [(2, (thing, 3), *self.right[2][0][2:])])))
            self.assertFalse(self.holds((2, self.right[1], [(2, ("t", 3), [thing], [(0, 0), (0, 2)])])))
            self.assertFalse(self.holds((2, self.right[1], [(2, ("t", 3), ["on"], [(0, 0), thing])])))
            if type(thing) is not int or thing != 2:
                self.assertFalse(self.holds((2, self.right[1], [(2, ("t", 3), ["on"], [(0, 0), (0, thing)])])))
            if type(thing) is not int or thing != 0:
                self.assertFalse(self.holds((2, self.right[1], [(2, ("t", 3), ["on"], [(0, 0), (thing, 2)])])))
        self.assertFalse(self.holds(list(self.right)))
        self.assertFalse(self.holds(self.right[:2]))
        self.assertFalse(self.holds(self.right + (None,)))

    def test_very_many_parts(self):
        way = (1, ("t", 3), ["on"], [(0, 0), (0, 2)])
        self.assertFalse(self.holds((2, [("on", 0)], [way] * 200000)))
        self.assertFalse(self.holds((2, [("on", 0)] * 200000, [way] * 2)))
        self.assertFalse(self.holds((2, [("on", 0)], [(2, ("t", 3), ["on"] * 200000, way[3])])))
        self.assertFalse(self.holds((2, [("on", 0)], [(2, ("t", 3), ["on"], way[3] * 100000)])))
        ring = Plan("ab", 1, "s", {"in": ("s", "t", A), "on": ("t", "t", Piece("ab", [("copy", 1, 1)]))})
        many = 50000
        steps = [(k, 0) for k in range(many)]
        thing = (1, [("on", 0)], [(1, ("t", 1), ["on"] * many, steps)])
        self.assertFalse(self.holds(thing, plan=ring, marks=[("t", 1)], wished=[("on", 0)], prices={}))
        loop = Plan("ab", 2, "s", {"in": ("s", "t", A + A), "on": ("t", "t", Piece("ab", [("copy", 2, 1)])), "end": ("t", "u", Piece("ab", [("copy", 2, 1)]))})
        thing = (1, [("end", 0)], [(1, ("t", 2), ["on"] * 1000 + ["end"], [(k, 0) for k in range(0, 1000, 2)] + [(1000, 0)])])
        told = {"plan": loop, "marks": [("t", 2)], "wished": [("end", 0)]}
        self.assertTrue(self.holds(thing, **told, prices={"on": 500}))
        self.assertFalse(self.holds(thing, **told, prices={"on": 499}))

    def test_changed_results(self):
        chance = random.Random(122)
        seen = {True: 0, False: 0}
        for _ in range(300):
            plan = made_sound(chance, filled=True, edges="abc")
            marks = [mark for state in plan.reached() for mark in state_marks(plan, state)]
            wished = [place for place in copies_of(plan) if chance.random() < 0.7]
            prices = {edge: chance.randint(0, 4) for edge in plan.used()}
            price, places, ways = cheapest_spelling(plan, marks, wished, prices)
            for _ in range(4):
                thing = self.changed(chance, plan, price, list(places), list(ways))
                right = is_right(plan, marks, wished, prices, thing)
                self.assertIs(self.holds(thing, plan=plan, marks=marks, wished=wished, prices=prices), right, thing)
                seen[right] += 1
        self.assertGreater(min(seen.values()), 100, seen)

    def changed(self, chance, plan, price, places, ways):
        how = chance.randrange(7)
        if how == 0:
            price += chance.choice([-1, 1])
        elif how == 1 and copies_of(plan):
            places = sorted(set(places) ^ {chance.choice(copies_of(plan))})
        elif ways and how > 1:
            at = chance.randrange(len(ways))
            amount, mark, path, steps = ways[at]
            if how == 2 and amount > 1:
                ways[at:at + 1] = [(1, mark, path, steps), (amount - 1, mark, path, steps)]
            elif how == 3:
                ways[at] = (amount + chance.choice([-1, 1]), mark, path, steps)
            elif how == 4:
                ways[at] = (amount, (mark[0], chance.randint(1, plan.width)), path, steps)
            elif how == 5:
                k, index = chance.choice(steps)
                ways[at] = (amount, mark, path, [(k, chance.randint(0, 3)) if step == (k, index) else step for step in steps])
            else:
                chance.shuffle(ways)
        return price, places, ways


class Errors(unittest.TestCase):
    plan = Plan("ab", 3, "s", {"a": ("s", "t", A + A), "b": ("t", "t", Piece("ab", [("copy", 1, 1)])), "x": ("x", "y", A), "v": ("x", "y", A)})

    def both(self, kind, plan, marks, wished, prices):
        error = raised(self, kind, cheapest_spelling, plan, marks, wished, prices)
        for thing in [None, (0, [], []), 7]:
            self.assertEqual(vars(raised(self, kind, is_spelling, plan, marks, wished, prices, thing)), vars(error))
        return error

    def test_unsound_first(self):
        error = self.both(Unsound, SHORT, [("zz", 1)], [("zz", 0)], {"zz": 1})
        self.assertEqual((error.edge, error.index), ("a", 1))

    def test_unknown_then_unreached_then_no_place(self):
        for marks, wished, prices, name in [
            ([("s", 1), ("z", 1), ("q", 1)], [("zz", 0)], {"aa": 1}, "z"), ([("x", 1), ("a", 1)], [("zz", 0)], {}, "a"),
            ([("x", 1)], [("b", 99), ("zz", 0), ("yy", 1)], {"aa": 1}, "zz"), ([("x", 1)], [("x", 0)], {"zz": 1, "aa": 1, "b": 1}, "aa"),
            ([], [("s", 0)], {}, "s"), ([], [], {"t": 3}, "t"),
        ]:
            self.assertEqual(self.both(Unknown, self.plan, marks, wished, prices).name, name)
        for marks, wished, prices, name in [
            ([("s", 1), ("y", 1), ("x", 1)], [("x", 0)], {"v": 1}, "y"), ([("s", 1)], [("b", 99), ("x", 0), ("v", 1)], {"v": 1}, "x"),
            ([], [("b", 99)], {"x": 1, "v": 1, "a": 2}, "v"), ([], [], {"x": 0}, "x"),
        ]:
            self.assertEqual(self.both(Unreached, self.plan, marks, wished, prices).name, name)
        for wished, told in [([("b", 1)], ("b", 1)), ([("a", 0), ("b", -1), ("a", 7)], ("b", -1)), ([("a", 2), ("b", 1)], ("a", 2))]:
            error = self.both(NoPlace, self.plan, [("t", 1)], wished, {"a": 1})
            self.assertEqual((error.edge, error.index), told)
        # Places that are no copies may be wished.
        self.assertEqual(cheapest_spelling(self.plan, [("t", 1)], [("a", 0), ("a", 1)], {}), (0, [], []))

    def test_unsound_plans(self):
        chance = random.Random(123)
        for _ in range(40):
            plan = made_plan(chance)
            if unsound(plan):
                for call in (lambda: spelled(plan, []), lambda: cheapest_spelling(plan, [], [], {})):
                    error = raised(self, Unsound, call)
                    self.assertEqual((error.edge, error.index), unsound(plan)[0])


if __name__ == "__main__":
    unittest.main()
