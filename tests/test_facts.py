import itertools
import random
import time
import unittest

from making import fills, loops, made_plan, made_sound, one_line, raised, worlds
from test_pieces import FLUSH
from windowcuts.counts import unsound
from windowcuts.errors import Unknown, Unreached, Unsound
from windowcuts.facts import Facts
from windowcuts.pieces import Piece
from windowcuts.plans import Plan
from windowcuts.rows import holes, rows_upto, state_behind, texts

A = Piece("ab", [("text", "a")])


def sign_at(tail, root, signs):
    """The sign of a root, or None if it is not there."""
    kind, told = root
    if kind == "slot":
        return tail[-told] if told <= len(tail) else None
    return told if kind == "sign" else signs[told]


def tail_behind(plan, row, fill):
    return "".join(texts(plan, row, fill))[-plan.width:]


def slots(plan):
    return range(1, plan.width + 1)


class Counted:
    """What the worlds of a plan tell of slots, with the fewest edges."""

    def __init__(self, plan, found):
        self.signs, self.pairs = {}, {}
        for (state, tail, _), (row, _) in found.items():
            for one in range(1, len(tail) + 1):
                self.signs.setdefault((state, one, tail[-one]), len(row))
                for other in range(1, len(tail) + 1):
                    if tail[-one] != tail[-other]:
                        self.pairs.setdefault((state, one, other), len(row))
        self.there = {(state, slot) for state, slot, _ in self.signs}


class ByHand(unittest.TestCase):
    def test_texts_and_slots_that_are_never_there(self):
        plan, row = one_line([("text", "ab")], [("text", "a")], width=4)
        facts = Facts(plan)
        self.assertEqual([facts.signs_in("s", slot) for slot in slots(plan)], ["", "", "", ""])
        self.assertEqual([facts.signs_in("t", slot) for slot in slots(plan)], ["b", "a", "", ""])
        self.assertEqual([facts.signs_in("u", slot) for slot in slots(plan)], ["a", "b", "a", ""])
        self.assertEqual([facts.equals(state) for state in "stu"], [[], [], [(1, 3)]])
        self.assertEqual([facts.differ("u", 1, 2), facts.differ("u", 1, 3), facts.differ("u", 1, 4)], [True, False, False])
        self.assertEqual([facts.value_row("u", 2, "b"), facts.value_row("u", 2, "a")], [(row, []), None])
        self.assertEqual([facts.value_row("u", 4, "a"), facts.value_row("s", 1, "a")], [None, None])

    def test_holes(self):
        plan, row = one_line([("any", "ac"), ("any", "b"), ("copy", 2, 1), ("any", "c")], signs="abc", width=4)
        facts = Facts(plan)
        self.assertEqual([facts.signs_in("t", slot) for slot in slots(plan)], ["c", "ac", "b", "ac"])
        self.assertEqual(facts.equals("t"), [(2, 4)])
        self.assertEqual(facts.value_row("t", 2, "c"), (row, ["c", "b", "c"]))
        self.assertEqual(facts.differ_row("t", 1, 2), (row, ["a", "b", "c"]))
        self.assertEqual(facts.differ_row("t", 4, 1), (row, ["a", "b", "c"]))
        self.assertEqual(facts.differ_row("t", 2, 4), None)

    def test_holes_with_one_sign_only(self):
        plan, row = one_line([("any", "b"), ("any", "b"), ("text", "b")])
        self.assertEqual(Facts(plan).equals("t"), [(1, 2), (1, 3), (2, 3)])
        plan, row = one_line([("any", "b")], [("any", "b"), ("any", "ab")])
        facts = Facts(plan)
        self.assertEqual([facts.equals("u"), facts.signs_in("u", 1)], [[(2, 3)], "ab"])
        self.assertEqual(facts.differ_row("u", 1, 3), (row, ["b", "b", "a"]))

    def test_holes_with_the_same_choice(self):
        plan, row = one_line([("any", "ab"), ("any", "ab")])
        facts = Facts(plan)
        self.assertEqual(facts.equals("t"), [])
        told, fill = facts.differ_row("t", 2, 1)
        self.assertEqual((told, sorted(fill)), (row, ["a", "b"]))

    def test_rings(self):
        plan = Plan("ab", 2, "s", {
            "in": ("s", "t", Piece("ab", [("any", "ab"), ("copy", 1, 1)])), "on": ("t", "t", Piece("ab", [("copy", 2, 1)])),
        })
        self.assertEqual(Facts(plan).equals("t"), [(1, 2)])
        wide = plan.changed("off", "t", "t", Piece("ab", [("copy", 1, 1), ("text", "b")]))
        facts = Facts(wide)
        self.assertEqual([facts.equals("t"), facts.differ_row("t", 1, 2)], [[], (["in", "off"], ["a"])])

    def test_long_rings_to_the_first_sign(self):
        plan = Plan("ab", 12, "s", {
            "in": ("s", "t", Piece("ab", [("text", "ba" + "a" * 10)])), "on": ("t", "t", Piece("ab", [("copy", 11, 1)])),
        })
        facts = Facts(plan)
        self.assertEqual(facts.signs_in("t", 1), "a")
        plan = plan.changed("on", "t", "t", Piece("ab", [("copy", 12, 1)]))
        facts = Facts(plan)
        row = ["in"] + ["on"] * 12
        for slot in range(1, 13):
            self.assertEqual(facts.value_row("t", slot, "b"), (row[:slot + 1 if slot < 12 else 1], []))
        self.assertEqual(facts.equals("t"), [])

    def test_echoes(self):
        plan = loops(4, signs="abc", a=[("any", "abc"), ("say", 1, 1), FLUSH], b=[("any", "ab"), FLUSH, ("say", 1, 3)])
        facts = Facts(plan)
        self.assertEqual(facts.equals("s"), [(1, 2), (3, 4)])
        self.assertEqual([facts.signs_in("s", slot) for slot in slots(plan)], ["abc"] * 4)
        told, fill = facts.differ_row("s", 1, 4)
        self.assertEqual((told, len(set(fill))), (["a", "a"], 2))
        single = loops(4, a=[("any", "b"), ("say", 1, 1), FLUSH], b=[("any", "b"), FLUSH, ("say", 1, 3)])
        self.assertEqual(len(Facts(single).equals("s")), 6)

    def test_one_slot_twice_and_exchanged(self):
        plan, row = one_line([("text", "ab"), ("any", "ab")])
        facts = Facts(plan)
        for slot in slots(plan):
            self.assertEqual([facts.differ("t", slot, slot), facts.differ_row("t", slot, slot)], [False, None])
            for other in slots(plan):
                self.assertEqual(facts.differ_row("t", slot, other), facts.differ_row("t", other, slot))
        self.assertEqual(facts.differ_row("t", 1, 3), (row, ["b"]))

    def test_no_edge(self):
        plan = Plan("ab", 3, "q", {"a": ("s", "t", A)})
        facts = Facts(plan)
        self.assertEqual([facts.signs_in("q", 1), facts.equals("q"), facts.differ("q", 1, 2)], ["", [], False])
        self.assertEqual([facts.value_row("q", 1, "a"), facts.differ_row("q", 1, 2)], [None, None])
        self.assertEqual(facts.unlike_row("q", ("sign", "a"), ("hole", 0), ["ab"]), ([], [], ["b"]))


class Roots(unittest.TestCase):
    plan, row = one_line([("any", "ab"), ("text", "a")])
    facts = Facts(plan)

    def check(self, one, other, choices, row, fill, signs):
        for pair in ((one, other), (other, one)):
            self.assertIs(self.facts.unlike("t", *pair, choices), True)
            self.assertEqual(self.facts.unlike_row("t", *pair, choices), (row, fill, signs))

    def never(self, one, other, choices):
        for pair in ((one, other), (other, one)):
            self.assertIs(self.facts.unlike("t", *pair, choices), False)
            self.assertIs(self.facts.unlike_row("t", *pair, choices), None)

    def test_one_and_the_same(self):
        for root in [("sign", "a"), ("hole", 0), ("hole", 1), ("slot", 1), ("slot", 2), ("slot", 3)]:
            self.never(root, root, ["ab", "ab"])

    def test_signs_and_holes(self):
        self.check(("sign", "a"), ("sign", "b"), ["ab", "b"], ["a"], ["a"], ["a", "b"])
        self.check(("sign", "a"), ("hole", 1), ["a", "ab"], ["a"], ["a"], ["a", "b"])
        self.never(("sign", "a"), ("hole", 1), ["ab", "a"])
        self.check(("hole", 0), ("hole", 1), ["b", "ab"], ["a"], ["a"], ["b", "a"])
        self.check(("hole", 0), ("hole", 1), ["a", "b"], ["a"], ["a"], ["a", "b"])
        self.never(("hole", 0), ("hole", 2), ["a", "ab", "a"])

    def test_slots(self):
        self.check(("slot", 1), ("slot", 2), ["ab"], ["a"], ["b"], ["a"])
        self.check(("slot", 2), ("sign", "a"), [], ["a"], ["b"], [])
        self.check(("slot", 2), ("sign", "b"), [], ["a"], ["a"], [])
        self.check(("slot", 1), ("sign", "b"), [], ["a"], ["a"], [])
        self.never(("slot", 1), ("sign", "a"), ["ab"])
        self.check(("slot", 1), ("hole", 1), ["ab", "ab"], ["a"], ["a"], ["a", "b"])
        self.check(("slot", 2), ("hole", 0), ["b"], ["a"], ["a"], ["b"])
        self.never(("slot", 1), ("hole", 0), ["a"])

    def test_slots_that_are_never_there(self):
        for other in [("slot", 1), ("slot", 2), ("sign", "a"), ("sign", "b"), ("hole", 0)]:
            self.never(("slot", 3), other, ["ab"])
        for other in [("slot", 2), ("sign", "a"), ("sign", "b"), ("hole", 0)]:
            self.assertIs(self.facts.unlike("s", ("slot", 1), other, ["ab"]), False)

    def test_holes_stay(self):
        choices = ["ab", "b"]
        got = self.facts.unlike_row("t", ("hole", 0), ("hole", 1), choices)
        self.assertEqual((choices, got), (["ab", "b"], (["a"], ["a"], ["a", "b"])))
        for one in got:
            one.append(None)
        self.assertEqual(self.facts.unlike_row("t", ("hole", 0), ("hole", 1), choices), (["a"], ["a"], ["a", "b"]))


class Errors(unittest.TestCase):
    def calls(self, facts):
        return [
            lambda state: facts.signs_in(state, 1), lambda state: facts.value_row(state, 1, "a"), facts.equals,
            lambda state: facts.differ(state, 1, 2), lambda state: facts.differ_row(state, 1, 2),
            lambda state: facts.unlike(state, ("sign", "a"), ("sign", "b"), []),
            lambda state: facts.unlike_row(state, ("sign", "a"), ("sign", "b"), []),
        ]

    def test_unsound(self):
        plan, row = one_line([("text", "a"), ("copy", 3, 4)], [("say", 3, 1)])
        error = raised(self, Unsound, Facts, plan)
        self.assertEqual((error.edge, error.index), ("a", 1))
        chance = random.Random(49)
        for _ in range(100):
            plan = made_plan(chance)
            if unsound(plan):
                error = raised(self, Unsound, Facts, plan)
                self.assertEqual((error.edge, error.index), unsound(plan)[0])
            else:
                Facts(plan)

    def test_unsound_edges_that_no_row_has(self):
        plan = Plan("ab", 3, "s", {"a": ("s", "t", A), "x": ("x", "t", Piece("ab", [("copy", 3, 1)]))})
        self.assertEqual(Facts(plan).signs_in("t", 1), "a")

    def test_unknown_and_unreached(self):
        facts = Facts(Plan("ab", 3, "s", {"a": ("s", "t", A), "x": ("x", "y", A)}))
        for call in self.calls(facts):
            self.assertEqual(raised(self, Unknown, call, "z").name, "z")
            self.assertEqual(raised(self, Unknown, call, "a").name, "a")
            for state in "xy":
                self.assertEqual(raised(self, Unreached, call, state).name, state)
            call("s")
            call("t")


class AtRandom(unittest.TestCase):
    def plans(self, seed, many, **how):
        chance = random.Random(seed)
        while many > 0:
            plan = made_sound(chance, **how)
            found = worlds(plan)
            if found is not None:
                many -= 1
                yield plan, Facts(plan), found

    def check_row(self, plan, told, state, least):
        """The window behind a row that was told."""
        row, fill = told
        self.assertEqual((len(row), state_behind(plan, row)), (least, state))
        return tail_behind(plan, row, fill)

    def test_signs_and_pairs(self):
        seen = [0, 0, 0]
        for how in ({}, {"width": 4, "edges": "abcde"}, {"signs": "abc", "width": 2}, {"filled": True}):
            for plan, facts, found in self.plans(50, 60, **how):
                before = plan.edges()
                counted = Counted(plan, found)
                for state in plan.reached():
                    self.check_signs(plan, facts, state, counted)
                    pairs = self.check_pairs(plan, facts, state, counted, seen)
                    self.assertEqual(facts.equals(state), pairs)
                    seen[2] += len(pairs)
                self.assertEqual(plan.edges(), before)
        self.assertGreater(min(seen), 300)

    def check_signs(self, plan, facts, state, counted):
        for slot in slots(plan):
            told = [sign for sign in plan.signs if (state, slot, sign) in counted.signs]
            self.assertEqual(facts.signs_in(state, slot), "".join(told))
            for sign in plan.signs:
                row = facts.value_row(state, slot, sign)
                self.assertEqual(row is not None, sign in told)
                if row is not None:
                    tail = self.check_row(plan, row, state, counted.signs[state, slot, sign])
                    self.assertEqual(tail[-slot], sign)

    def check_pairs(self, plan, facts, state, counted, seen):
        """The pairs that are surely equal."""
        equals = []
        for one in slots(plan):
            for other in slots(plan):
                row = facts.differ_row(state, one, other)
                least = counted.pairs.get((state, one, other))
                self.assertIs(facts.differ(state, one, other), least is not None)
                seen[least is not None] += 1
                if least is None:
                    self.assertIs(row, None)
                    if one < other and (state, other) in counted.there:
                        equals.append((one, other))
                else:
                    tail = self.check_row(plan, row, state, least)
                    self.assertNotEqual(tail[-one], tail[-other])
        return equals

    def test_roots(self):
        chance = random.Random(51)
        seen = [0, 0]
        for plan, facts, found in self.plans(52, 60, signs="abc", width=2):
            choices = [chance.choice(["a", "b", "ab", "abc"]) for _ in range(2)]
            roots = [("sign", sign) for sign in "abc"] + [("hole", 0), ("hole", 1)] + [("slot", 1), ("slot", 2)]
            for state in plan.reached():
                for one, other in itertools.product(roots, repeat=2):
                    least = self.least_unlike(found, state, one, other, choices)
                    self.assertIs(facts.unlike(state, one, other, choices), least is not None)
                    told = facts.unlike_row(state, one, other, choices)
                    self.assertEqual(told is not None, least is not None)
                    seen[least is not None] += 1
                    if told is not None:
                        tail = self.check_row(plan, told[:2], state, least)
                        self.assertIn(told[2], fills(choices))
                        both = [sign_at(tail, root, told[2]) for root in (one, other)]
                        self.assertTrue(None not in both and both[0] != both[1])
        self.assertGreater(min(seen), 500)

    def least_unlike(self, found, state, one, other, choices):
        for (at, tail, _), (row, _) in found.items():
            for signs in fills(choices) if at == state else []:
                both = [sign_at(tail, root, signs) for root in (one, other)]
                if None not in both and both[0] != both[1]:
                    return len(row)
        return None

    def test_all_rows_of_a_few_edges_agree(self):
        chance = random.Random(53)
        for _ in range(40):
            plan = made_sound(chance, width=5)
            facts = Facts(plan)
            for row in rows_upto(plan, 3):
                state = state_behind(plan, row)
                equals = facts.equals(state)
                for fill in itertools.islice(fills(holes(plan, row)), 16):
                    tail = tail_behind(plan, row, fill)
                    for one in range(1, len(tail) + 1):
                        self.assertIn(tail[-one], facts.signs_in(state, one))
                        for other in range(one + 1, len(tail) + 1):
                            self.assertIs((one, other) in equals, not facts.differ(state, one, other))
                            if tail[-one] != tail[-other]:
                                self.assertNotIn((one, other), equals)

    def test_the_order_of_questions_and_edges_means_nothing(self):
        chance = random.Random(54)
        for _ in range(40):
            plan = made_sound(chance)
            edges = plan.edges()
            other = Plan(plan.signs, plan.width, plan.start, {name: edges[name] for name in list(edges)[::-1]})
            asked = []
            for state in plan.reached():
                asked += [("signs_in", state, slot) for slot in slots(plan)] + [("equals", state)]
                asked += [("value_row", state, slot, "a") for slot in slots(plan)]
                asked += [("differ_row", state, one, two) for one in slots(plan) for two in slots(plan)]
            first, second = Facts(plan), Facts(other)
            told = [getattr(first, name)(*rest) for name, *rest in asked]
            again = [getattr(second, name)(*rest) for name, *rest in asked[::-1]][::-1]
            self.assertEqual(told, again)
            self.assertEqual([getattr(first, name)(*rest) for name, *rest in asked], told)
            for got in told:
                for one in got if type(got) is tuple else [got]:
                    if type(one) is list:
                        one.append("x")
            self.assertEqual([getattr(first, name)(*rest) for name, *rest in asked], again)


class Large(unittest.TestCase):
    def test_sixteen_edges_of_width_twelve(self):
        chance = random.Random(55)
        signs = "abcdef"
        for states in (1, 4, 15):
            edges = {"in": ("s", "xa", Piece(signs, [("any", signs)] * 12))}
            for at in range(15):
                places = [("copy", chance.randint(1, 12)) for _ in range(chance.randint(1, 40))]
                places[chance.randrange(len(places))] = ("hole", "abf") if at % 3 else ("say", 11)
                piece = Piece.of_places(signs, places, [])
                edges["abcdefghijklmno"[at]] = tuple(
                    "x" + "abcdefghijklmno"[step % states] for step in (at, at + 1)) + (piece,)
            plan = Plan(signs, 12, "s", edges)
            begun = time.monotonic()
            facts = Facts(plan)
            for state in plan.reached():
                facts.equals(state)
                for one in slots(plan):
                    for other in slots(plan):
                        facts.differ_row(state, one, other)
                    for sign in signs:
                        facts.value_row(state, one, sign)
            self.assertLess(time.monotonic() - begun, 5)


if __name__ == "__main__":
    unittest.main()
