import random
import unittest

from making import loops, made_sound, one_line, raised, worlds
from oddities import ODD, but
from test_roots import followed
from windowcuts.claims import all_claims, are_claims
from windowcuts.errors import Unsound
from windowcuts.facts import Facts
from windowcuts.pieces import Piece
from windowcuts.plans import Plan

A = Piece("ab", [("text", "a")])


def closed_plainly(plan, values, equals):
    """Whether lists of claims that have the right form are closed, edge by edge and slot by slot."""
    signs = {(state, slot): set(told) for state, slot, told in values}
    for edge in plan.used():
        source, target, piece = plan[edge]
        roots = {}
        for slot in range(1, plan.width + 1):
            at = len(piece) - slot
            root = followed(piece, ["copy", "say"])[at] if at >= 0 else ("slot", -at)
            kind, told = root
            can = set(told) if kind == "sign" else set(piece.holes()[told]) if kind == "hole" else signs[source, told]
            roots[slot] = (root, can)
            if not can <= signs[target, slot]:
                return False
        for state, one, other in equals:
            (first, ones), (second, others) = roots[one], roots[other]
            if state != target or first == second:
                continue
            if first[0] == second[0] == "slot" and (source, *sorted([first[1], second[1]])) in equals:
                continue
            if any(sign != against for sign in ones for against in others):
                return False
    return True


class Claims(unittest.TestCase):
    plan, _ = one_line([("any", "ab"), ("copy", 1, 1)], [("say", 2, 1)], width=2)

    def holds(self, values, equals, plan=None):
        told = are_claims(plan or self.plan, values, equals)
        self.assertIs(type(told), bool)
        return told

    def test_all_claims(self):
        values, equals = all_claims(self.plan)
        self.assertEqual(values, [
            ("s", 1, ""), ("s", 2, ""), ("t", 1, "ab"), ("t", 2, "ab"), ("u", 1, "ab"), ("u", 2, "ab"),
        ])
        self.assertEqual(equals, [("s", 1, 2), ("t", 1, 2), ("u", 1, 2)])
        self.assertTrue(self.holds(values, equals))

    def test_any_order_and_equals_twice(self):
        values, equals = all_claims(self.plan)
        self.assertTrue(self.holds(values[::-1], equals[::-1] + equals))
        chance = random.Random(60)
        chance.shuffle(values)
        self.assertTrue(self.holds(values, equals * 3))
        self.assertTrue(self.holds(values, []))
        self.assertTrue(self.holds(values, equals[1:]))

    def test_signs_less_and_more(self):
        values, equals = all_claims(self.plan)
        for at, (state, slot, signs) in enumerate(values):
            for other in ("", "a", "b", "ab"):
                changed = values[:at] + [(state, slot, other)] + values[at + 1:]
                self.assertIs(self.holds(changed, equals), closed_plainly(self.plan, changed, equals))
                self.assertIs(self.holds(changed, []), closed_plainly(self.plan, changed, []))
                if not set(signs) <= set(other):
                    self.assertFalse(self.holds(changed, []))

    def test_all_signs_and_no_equals(self):
        chance = random.Random(61)
        for _ in range(50):
            plan = made_sound(chance)
            slots = [(state, slot, "ab") for state in plan.reached() for slot in range(1, plan.width + 1)]
            self.assertTrue(self.holds(slots, [], plan))

    def test_tuples_that_lack_or_are_too_many(self):
        values, equals = all_claims(self.plan)
        for at in range(len(values)):
            self.assertFalse(self.holds(values[:at] + values[at + 1:], equals))
            self.assertFalse(self.holds(values + [values[at]], equals))
            self.assertFalse(self.holds(values[:at] + values[at + 1:] + [values[at - 1]], equals))
        for extra in [("t", 0, "ab"), ("t", 3, "ab"), ("t", -1, "ab"), ("x", 1, ""), ("t", 1, "a"), ("T", 1, "ab")]:
            self.assertFalse(self.holds(values + [extra], equals))
            self.assertFalse(self.holds(values[:-1] + [extra], equals))
        self.assertFalse(self.holds([], equals))

    def test_states_that_no_row_comes_to(self):
        edges = {**self.plan.edges(), "x": ("x", "t", Piece("ab", [("copy", 1, 1)]))}
        plan = Plan("ab", 2, "s", edges)
        values, equals = all_claims(plan)
        self.assertEqual([values, equals], list(all_claims(self.plan)))
        self.assertTrue(self.holds(values, equals, plan))
        self.assertFalse(self.holds(values + [("x", 1, ""), ("x", 2, "")], equals, plan))
        self.assertFalse(self.holds(values, equals + [("x", 1, 2)], plan))
        self.assertFalse(self.holds(values, equals + [("z", 1, 2)], plan))

    def test_equals_of_another_form(self):
        values, equals = all_claims(self.plan)
        for claim in [
            ("t", 2, 1), ("t", 1, 1), ("t", 0, 1), ("t", 1, 3), ("t", -1, 1), ["t", 1, 2], ("t", 1), ("t", 1, 2, 3), ("t", True, 2),
            ("t", "1", 2), ("t", 1, "2"), ("t", 1, None), (None, 1, 2), (("t",), 1, 2), ([], 1, 2), ("t", [1], [2]), (), "t12",
            ("t", 1, True), ("t", False, True), ("a", 1, 2),
        ]:
            self.assertFalse(self.holds(values, equals + [claim]), claim)
            self.assertFalse(self.holds(values, [claim]), claim)
        for thing in [tuple(equals), {("t", 1, 2): True}, {("t", 1, 2)}, None, "", ("t", 1, 2), equals[0]]:
            self.assertFalse(self.holds(values, thing))

    def test_values_of_another_form(self):
        values, equals = all_claims(self.plan)
        rest = [value for value in values if value[:2] != ("t", 1)]
        self.assertTrue(self.holds(rest + [("t", 1, "ab")], equals))
        for claim in [
            ["t", 1, "ab"], ("t", 1), ("t", 1, "ab", 1), ("t", True, "ab"), ("t", 1, "ba"), ("t", 1, "abb"), ("t", 1, "abc"),
            ("t", 1, ["a", "b"]), ("t", 1, ("a", "b")), ("t", 1, None), ("t", 1, b"ab"), ("t", "1", "ab"), (None, 1, "ab"),
            ([], 1, "ab"), ("t", [], "ab"), ("t", 1, {"a", "b"}), ("t", 1, True), ("t", None, "ab"), ("t", 1, "AB"), ("t", 1, "a b"),
        ]:
            self.assertFalse(self.holds(rest + [claim], equals), claim)
        for thing in [tuple(values), {value: True for value in values}, None, "", values[0], {value[:2]: value[2] for value in values}]:
            self.assertFalse(self.holds(thing, equals))

    def test_odd_values(self):
        values, equals = all_claims(self.plan)
        for thing in ODD:
            self.assertFalse(self.holds(thing, equals))
            self.assertFalse(self.holds(values[1:] + [thing], equals))
            if type(thing) is not list or thing:
                self.assertFalse(self.holds(values, thing))
            self.assertFalse(self.holds(values, equals + [thing]))
            self.assertFalse(self.holds(values[1:] + [(thing, 1, "")], equals))
            good = type(thing) is str and thing in ("", "a", "b", "ab")
            self.assertIs(self.holds(values[1:] + [("s", 1, thing)], equals), good)
            self.assertFalse(self.holds(values, [(thing, 1, 2)]))
        for thing in but(1):
            self.assertFalse(self.holds(values[1:] + [("s", thing, "")], equals))
            self.assertFalse(self.holds(values, [("t", thing, 2)]))
        for thing in but(2):
            self.assertFalse(self.holds(values, [("t", 1, thing)]))

    def test_what_makes_slots_equal(self):
        for tokens, width, claim, right in [
            ([("any", "ab"), ("say", 1, 1)], 2, ("s", 1, 2), True), ([("any", "ab"), ("any", "ab")], 2, ("s", 1, 2), False),
            ([("any", "b"), ("any", "b")], 2, ("s", 1, 2), True), ([("any", "b"), ("text", "b")], 2, ("s", 1, 2), True),
            ([("any", "ab"), ("text", "b")], 2, ("s", 1, 2), False), ([("text", "ab")], 2, ("s", 1, 2), False),
            ([("text", "aa")], 3, ("s", 2, 3), False), ([("text", "aa")], 4, ("s", 3, 4), False),
        ]:
            plan = loops(width, a=tokens)
            values = [("s", slot, "ab") for slot in range(1, width + 1)]
            self.assertIs(self.holds(values, [claim], plan), right, tokens)
        plan = loops(4, a=[("text", "aa")])
        values = [("s", slot, "ab") for slot in range(1, 5)]
        self.assertTrue(self.holds(values, [("s", 3, 4), ("s", 1, 2)], plan))
        self.assertTrue(self.holds([("s", slot, "a") for slot in range(1, 5)], [("s", 3, 4)], plan))

    def test_slots_that_are_exchanged(self):
        plan = Plan("ab", 3, "s", {
            "a": ("s", "t", Piece("ab", [("any", "ab"), ("copy", 1, 2)])),
            "b": ("t", "t", Piece("ab", [("copy", 1, 1), ("copy", 3, 1), ("copy", 1, 1)])),
        })
        values, equals = all_claims(plan)
        self.assertEqual([claim for claim in equals if claim[0] == "t"], [("t", 1, 2), ("t", 1, 3), ("t", 2, 3)])
        self.assertTrue(self.holds(values, equals, plan))
        # Without the tuple (1, 2) nothing shows that slots 1 and 3 of t, which come from 2 and 1, are equal.
        self.assertFalse(self.holds(values, [("t", 1, 3)], plan))
        self.assertTrue(self.holds(values, [("t", 1, 2)], plan))

    def test_unsound(self):
        plan, _ = one_line([("text", "a"), ("copy", 3, 4)])
        for call in (lambda: all_claims(plan), lambda: are_claims(plan, None, None), lambda: are_claims(plan, [], [])):
            error = raised(self, Unsound, call)
            self.assertEqual((error.edge, error.index), ("a", 1))

    def test_no_edge(self):
        plan = Plan("ab", 3, "q", {"a": ("s", "t", A)})
        values = [("q", slot, "") for slot in (1, 2, 3)]
        equals = [("q", 1, 2), ("q", 1, 3), ("q", 2, 3)]
        self.assertEqual(all_claims(plan), (values, equals))
        self.assertTrue(self.holds(values, equals, plan))
        self.assertTrue(self.holds([("q", slot, "ab") for slot in (3, 1, 2)], equals[:1], plan))
        self.assertFalse(self.holds(values[1:], equals, plan))

    def test_told_alike_for_equal_plans(self):
        chance = random.Random(62)
        for _ in range(50):
            plan = made_sound(chance)
            edges = plan.edges()
            names = list(edges)
            chance.shuffle(names)
            values, equals = all_claims(plan)
            self.assertEqual(all_claims(Plan("ab", plan.width, plan.start, {name: edges[name] for name in names})), (values, equals))
            self.assertEqual([values, equals], [sorted(values), sorted(set(equals))])
            values.append(None)
            equals.clear()
            again = all_claims(plan)
            self.assertNotIn(None, again[0])
            self.assertIs(type(again), tuple)
            self.assertEqual(plan.edges(), edges)

    def test_what_all_claims_tells(self):
        chance = random.Random(63)
        for at in range(80):
            plan = made_sound(chance, **({"signs": "abc", "width": 2} if at % 2 else {"width": 4}))
            values, equals = all_claims(plan)
            self.assertTrue(self.holds(values, equals, plan))
            self.assertTrue(closed_plainly(plan, values, equals))
            facts = Facts(plan)
            slots = range(1, plan.width + 1)
            reached = plan.reached()
            self.assertEqual(values, [(state, slot, facts.signs_in(state, slot)) for state in reached for slot in slots])
            self.assertEqual(equals, [
                (state, one, other) for state in reached for one in slots for other in slots
                if one < other and not facts.differ(state, one, other)])

    def test_changed_claims(self):
        chance = random.Random(64)
        seen = {True: 0, False: 0}
        for _ in range(300):
            plan = made_sound(chance)
            values, equals = all_claims(plan)
            for _ in range(chance.randint(0, 2)):
                at = chance.randrange(len(values))
                values[at] = values[at][:2] + (chance.choice(["", "a", "b", "ab", "ab"]),)
            equals = [claim for claim in equals if chance.random() < 0.9]
            if chance.random() < 0.3:
                equals.append((chance.choice(plan.reached()), *sorted(chance.sample([1, 2, 3], 2))))
            chance.shuffle(values)
            before = (list(values), list(equals))
            right = closed_plainly(plan, values, equals)
            self.assertIs(self.holds(values, equals, plan), right)
            self.assertEqual((values, equals), before)
            seen[right] += 1
            if right:
                self.check_true(plan, values, equals)
        self.assertGreater(min(seen.values()), 80)

    def check_true(self, plan, values, equals):
        """Closed claims hold behind every row."""
        signs = {(state, slot): told for state, slot, told in values}
        for state, tail, _ in worlds(plan) or []:
            for slot in range(1, len(tail) + 1):
                self.assertIn(tail[-slot], signs[state, slot])
            for at, one, other in equals:
                if at == state and other <= len(tail):
                    self.assertEqual(tail[-one], tail[-other])


if __name__ == "__main__":
    unittest.main()
