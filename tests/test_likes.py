import itertools
import random
import unittest

from making import check_new, fills, loops, made_piece, made_plan, made_sound, one_line, raised, sixteen, turned
from oddities import ODD
from test_pieces import FLUSH
from windowcuts.counts import unsound
from windowcuts.errors import Unsound
from windowcuts.likes import alike_claims, are_alike_claims, compare
from windowcuts.pieces import Piece
from windowcuts.plans import Plan
from windowcuts.pressing import pressed
from windowcuts.roots import text_roots
from windowcuts.rows import holes, is_row, rows_upto, texts

A = Piece("ab", [("text", "a")])
B = Piece("ab", [("text", "b")])


def is_difference(one, other, told):
    """Whether what compare tells of a row is so, in the words of the document."""
    kind, names = told[:2]
    if kind == "rows":
        return is_row(one, names) != is_row(other, names) and len(told) == 2
    if not is_row(one, names) or not is_row(other, names):
        return False
    if kind == "holes":
        return len(told) == 2 and one[names[-1]][2].holes() != other[names[-1]][2].holes()
    same = all(one[name][2].holes() == other[name][2].holes() for name in names)
    return kind == "texts" and same and "".join(texts(one, names, told[2])) != "".join(texts(other, names, told[2]))


def alike_upto(one, other, most):
    """Whether all rows with so many edges are alike, with all fills."""
    rows = list(rows_upto(one, most))
    if rows != list(rows_upto(other, most)):
        return False
    for row in rows:
        if any(one[name][2].holes() != other[name][2].holes() for name in row):
            return False
        for fill in fills(holes(one, row)):
            if "".join(texts(one, row, fill)) != "".join(texts(other, row, fill)):
                return False
    return True


def renamed(plan, chance):
    """The plan with other names of its states."""
    names = ["p", "q", "r", "starta", "endz", "m", "n"]
    chance.shuffle(names)
    table = dict(zip(plan.states(), names))
    edges = {name: (table[source], table[target], piece) for name, (source, target, piece) in plan.edges().items()}
    return Plan(plan.signs, plan.width, table[plan.start], edges)


def retold(plan, chance):
    """The plan with other tokens that write the same, so far as a few tries find them."""
    for _ in range(6):
        edge = chance.choice(plan.used() or list(plan.edges()))
        source, target, piece = plan[edge]
        places = piece.places()
        at = chance.randrange(len(places))
        if places[at][0] != "hole":
            places[at] = chance.choice([(kind, back) for kind in ("copy", "say") for back in range(1, plan.width + 1)] + [
                ("sign", sign) for sign in plan.signs])
            changed = plan.changed(edge, source, target, Piece.of_places(plan.signs, places, piece.flushes()))
            if not unsound(changed) and alike_upto(plan, changed, 4):
                plan = changed
    return plan


class ByHand(unittest.TestCase):
    plan = Plan("ab", 3, "s", {
        "in": ("s", "t", Piece("ab", [("any", "ab"), ("text", "ab")])), "on": ("t", "t", Piece("ab", [("copy", 2, 1)])),
        "out": ("t", "u", Piece("ab", [FLUSH, ("text", "ab")])),
    })

    def test_itself(self):
        pairs = [("s", "s"), ("t", "t"), ("u", "u")]
        self.assertEqual(compare(self.plan, self.plan), ("alike", pairs))
        self.assertEqual(compare(self.plan, Plan("ab", 3, "s", self.plan.edges())), ("alike", pairs))

    def test_other_tokens(self):
        for piece in [("text", "a"), ("say", 2, 1)]:
            other = self.plan.changed("on", "t", "t", Piece("ab", [piece]))
            # Behind the ring the sign two back is b and a by turns.
            self.assertEqual(compare(self.plan, other)[0], "texts" if piece[0] == "text" else "alike")
        for tokens in [[("text", "ab")], [("text", "a"), FLUSH, ("text", "b"), FLUSH], [("any", "ab")]]:
            other = self.plan.changed("out", "t", "u", Piece("ab", tokens))
            self.assertEqual(compare(self.plan, other)[0], "holes" if len(tokens[0]) == 2 and tokens[0][0] == "any" else "alike")

    def test_other_states_starts_and_widths(self):
        edges = {"in": ("x", "y", self.plan["in"][2]), "on": ("y", "y", self.plan["on"][2]), "out": ("y", "x", self.plan["out"][2])}
        other = Plan("ab", 12, "x", edges)
        self.assertEqual(compare(self.plan, other), ("rows", ["in", "out", "in"]))
        edges["out"] = ("y", "end", edges["out"][2])
        self.assertEqual(compare(self.plan, Plan("ab", 12, "x", edges)), ("alike", [("s", "x"), ("t", "y"), ("u", "end")]))
        self.assertEqual(compare(Plan("ab", 12, "x", edges), self.plan), ("alike", [("end", "u"), ("x", "s"), ("y", "t")]))

    def test_one_state_for_two(self):
        one = loops(2, a=[("any", "ab"), ("text", "a")])
        two = Plan("ab", 2, "s", {"a": ("s", "s", Piece("ab", [("any", "ab"), ("text", "a")]))})
        self.assertEqual(compare(one, two), ("alike", [("s", "s")]))
        line = Plan("ab", 2, "s", {"a": ("s", "t", Piece("ab", [("any", "ab"), ("text", "a")]))})
        self.assertEqual(compare(one, line), ("rows", ["a", "a"]))
        self.assertEqual(compare(line, one), ("rows", ["a", "a"]))

    def test_more_signs(self):
        piece = Piece("abc", [("any", "ab"), ("text", "ab")])
        more = Plan("abc", 3, "s", {
            "in": ("s", "t", piece), "on": ("t", "t", Piece("abc", [("copy", 2, 1)])),
            "out": ("t", "u", Piece("abc", [FLUSH, ("text", "ab")])),
        })
        self.assertEqual([compare(self.plan, more)[0], compare(more, self.plan)[0]], ["alike", "alike"])
        third = more.changed("out", "t", "u", Piece("abc", [("text", "cb")]))
        for one, other in [(self.plan, third), (third, self.plan)]:
            told = compare(one, other)
            self.assertEqual((told[:2], len(told[2])), (("texts", ["in", "out"]), 1))
        wide = more.changed("in", "s", "t", Piece("abc", [("any", "abc"), ("text", "ab")]))
        self.assertEqual([compare(self.plan, wide), compare(wide, self.plan)], [("holes", ["in"])] * 2)

    def test_holes_at_other_places(self):
        one, _ = one_line([("any", "ab"), ("copy", 1, 1)])
        other, _ = one_line([("any", "ab"), ("say", 1, 1)])
        late, _ = one_line([("text", "a"), ("any", "ab")])
        self.assertEqual(compare(one, other)[0], "alike")
        self.assertEqual(compare(one, late), ("texts", ["a"], ["b"]))

    def test_a_hole_of_one_sign(self):
        one, _ = one_line([("any", "b"), ("text", "a")], [("copy", 2, 1)])
        other, _ = one_line([("any", "b"), ("text", "a")], [("text", "b")])
        self.assertEqual(compare(one, other)[0], "alike")
        self.assertEqual(compare(one, one_line([("text", "ba")], [("text", "b")])[0]), ("holes", ["a"]))

    def test_lengths(self):
        one, _ = one_line([("any", "ab")], [("text", "aa")])
        other, _ = one_line([("any", "ab")], [("text", "aaa")])
        for told in (compare(one, other), compare(other, one)):
            self.assertEqual(told[:2], ("texts", ["a", "b"]))
            self.assertTrue(is_difference(one, other, told))
        self.assertEqual(compare(one, one_line([("any", "ab"), ("text", "a")], [("text", "a")])[0])[:2], ("texts", ["a"]))

    def test_lengths_that_even_out(self):
        # The texts of both edges are the same together, but those of the first one alone are not.
        one, _ = one_line([("text", "ab")], [("text", "a")])
        other, _ = one_line([("text", "a")], [("text", "ba")])
        self.assertEqual(compare(one, other), ("texts", ["a"], []))

    def test_a_fill_that_shows_it(self):
        one, _ = one_line([("any", "ab"), ("any", "ab")], [("copy", 1, 1)], [("any", "ab")], [("text", "a")])
        other, _ = one_line([("any", "ab"), ("any", "ab")], [("copy", 2, 1)], [("any", "ab")], [("text", "a")])
        told = compare(one, other)
        self.assertEqual(told[:2], ("texts", ["a", "b"]))
        self.assertIn(told[2], [["a", "b"], ["b", "a"]])

    def test_the_fewest_edges(self):
        edges = {
            "a": ("s", "t", A), "b": ("s", "u", A), "c": ("t", "u", A), "d": ("u", "v", Piece("ab", [("copy", 1, 1)])), "e": ("v", "v", A),
        }
        one = Plan("ab", 3, "s", edges)
        other = Plan("ab", 3, "s", {**edges, "e": ("v", "v", B)})
        self.assertEqual(compare(one, other), ("texts", ["b", "d", "e"], []))
        without = one.without("d")
        self.assertEqual([compare(one, without), compare(without, one)], [("rows", ["b", "d"])] * 2)
        self.assertEqual(compare(other, without), ("rows", ["b", "d"]))
        open_one = one.changed("d", "u", "v", Piece("ab", [("any", "a")]))
        self.assertEqual(compare(one, open_one), ("holes", ["b", "d"]))

    def test_no_edge(self):
        one, other = Plan("ab", 3, "q", {"a": ("s", "t", A)}), Plan("abc", 2, "p", {"x": ("s", "t", Piece("abc", [("text", "c")]))})
        self.assertEqual(compare(one, other), ("alike", [("q", "p")]))
        claims = alike_claims(one, other)
        self.assertEqual(claims[0], [("q", "p")])
        self.assertIs(are_alike_claims(one, other, *claims), True)
        self.assertEqual(compare(one, self.plan), ("rows", ["in"]))
        self.assertEqual(compare(self.plan, one), ("rows", ["in"]))
        self.assertIs(alike_claims(self.plan, one), None)

    def test_edges_that_no_row_has(self):
        other = self.plan.changed("x", "x", "t", B)
        self.assertEqual(compare(self.plan, other)[0], "alike")
        self.assertEqual(compare(self.plan, self.plan.changed("x", "x", "x", Piece("ab", [("copy", 3, 1)])))[0], "alike")

    def test_slots_beyond_one_width(self):
        one, _ = one_line([("any", "ab")], [("text", "a")], [("text", "ab")], [("copy", 1, 1)], width=1)
        other, _ = one_line([("any", "ab")], [("text", "a")], [("copy", 1, 1), ("text", "b")], [("copy", 1, 1)], width=5)
        far, _ = one_line([("any", "ab")], [("text", "a")], [("copy", 1, 1), ("text", "b")], [("copy", 4, 1)], width=5)
        self.assertEqual(compare(one, other)[0], "alike")
        self.assertEqual(compare(other, one)[0], "alike")
        self.assertEqual(compare(one, far), ("texts", list("abcd"), ["a"]))
        self.assertEqual(compare(far, one), ("texts", list("abcd"), ["a"]))
        for plans in [(one, other), (other, one)]:
            claims = alike_claims(*plans)
            self.assertEqual(len(claims[1]), 5 * 5)
            self.assertIs(are_alike_claims(*plans, *claims), True)


class Errors(unittest.TestCase):
    short, _ = one_line([("text", "a"), ("copy", 3, 4)])
    early, _ = one_line([("copy", 1, 1)])
    calls = (compare, alike_claims, lambda one, other: are_alike_claims(one, other, [], [], []),
             lambda one, other: are_alike_claims(one, other, None, 1, True))

    def test_of_the_first_one_first(self):
        for call in self.calls:
            for one, other, index in [
                (self.short, self.early, 1), (self.early, self.short, 0), (ByHand.plan, self.short, 1), (ByHand.plan, self.early, 0),
                (self.early, ByHand.plan, 0), (self.short, ByHand.plan, 1),
            ]:
                error = raised(self, Unsound, call, one, other)
                self.assertEqual((error.edge, error.index), ("a", index))

    def test_unsound_plans(self):
        chance = random.Random(90)
        for _ in range(60):
            one, other = made_plan(chance), made_plan(chance)
            first = one if unsound(one) else other
            if unsound(first):
                for call in self.calls:
                    error = raised(self, Unsound, call, one, other)
                    self.assertEqual((error.edge, error.index), unsound(first)[0])


class AtRandom(unittest.TestCase):
    def pairs(self, chance, many):
        """Plans that are alike, and such as are nearly so."""
        for at in range(many):
            one = made_sound(chance, edges="abc", **[{"width": 2}, {"filled": True}, {"most": 2, "filled": True}][at % 3])
            other = renamed(one, chance) if at % 2 else one
            other = retold(other, chance) if at % 5 else pressed(other)[0]
            if at % 4 == 1 and len(other) < 6:
                other = self.with_odd_rows(other)
            if at % 7 > 3:
                edge = chance.choice(list(other.edges()))
                source, target, piece = other[edge]
                places = piece.places()
                places[chance.randrange(len(places))] = chance.choice([("sign", "a"), ("sign", "b"), ("copy", 1), ("hole", "ab"), ("hole", "a")])
                other = other.changed(edge, source, target, Piece.of_places("ab", places, piece.flushes()))
            if at % 11 == 10:
                other = other.changed("z", chance.choice(other.states()), chance.choice(other.states()), made_piece(chance, 2))
            wide = Plan("ab", chance.choice([other.width, 5]), other.start, other.edges())
            if not unsound(wide):
                yield one, wide

    def with_odd_rows(self, plan):
        """The plan with a second state in the place of its start, which rows come to behind one edge."""
        edges = plan.edges()
        for name, (source, target, piece) in plan.edges().items():
            if source == plan.start:
                edges[name] = ("begin", target, piece)
        return Plan(plan.signs, plan.width, "begin", edges)

    def test_against_all_rows(self):
        chance = random.Random(91)
        seen = {"alike": 0, "rows": 0, "holes": 0, "texts": 0, "late": 0}
        for one, other in self.pairs(chance, 330):
            before = one.edges(), other.edges()
            told = compare(one, other)
            seen[told[0]] += 1
            if told[0] == "alike":
                self.assertTrue(alike_upto(one, other, 3))
                self.check_pairs(one, other, told[1])
            else:
                self.assertTrue(is_difference(one, other, told), told)
                self.assertTrue(alike_upto(one, other, len(told[1]) - 1))
                seen["late"] += len(told[1]) > 2
            self.check_both_ways(one, other, told)
            self.assertEqual(check_new(self, lambda: compare(one, other)), told)
            self.assertEqual(compare(turned(one), turned(other)), told)
            self.assertEqual((one.edges(), other.edges()), before)
        self.assertGreater(min(seen.values()), 15, seen)

    def check_pairs(self, one, other, pairs):
        found = {(one.start, other.start)}
        while True:
            more = {(one[edge][1], other[edge][1]) for p, q in found for edge in one.out(p) if edge in other.out(q)}
            if more <= found:
                break
            found |= more
        self.assertEqual(pairs, sorted(found))

    def check_both_ways(self, one, other, told):
        back = compare(other, one)
        if told[0] == "alike":
            self.assertEqual(back, ("alike", sorted((q, p) for p, q in told[1])))
        else:
            self.assertNotEqual(back[0], "alike")
            self.assertEqual(len(back[1]), len(told[1]))
            self.assertTrue(is_difference(other, one, back))

    def test_claims_of_alike_plans(self):
        chance = random.Random(92)
        seen = {True: 0, False: 0}
        for one, other in self.pairs(chance, 150):
            alike = compare(one, other)[0] == "alike"
            seen[alike] += 1
            claims = alike_claims(one, other)
            self.assertIs(claims is not None, alike)
            self.assertEqual(alike_claims(turned(one), turned(other)), claims)
            if alike:
                self.assertIs(type(claims), tuple)
                self.assertEqual(claims[0], compare(one, other)[1])
                for part in claims:
                    self.assertEqual(part, sorted(set(part)))
                self.assertIs(are_alike_claims(one, other, *claims), True)
                self.assertTrue(shown_plainly(one, other, *claims))
                self.assertEqual(check_new(self, lambda: alike_claims(one, other)), claims)
        self.assertGreater(min(seen.values()), 30, seen)

    def test_sixteen_edges(self):
        for kind in ("any", "fixed", "copies"):
            one = sixteen(kind)
            other = pressed(one)[0]
            told = compare(one, other)
            self.assertEqual((told[0], len(told[1])), ("alike", 6))
            claims = alike_claims(one, other)
            self.assertIs(are_alike_claims(one, other, *claims), True)
            last = one["o"]
            changed = one.changed("o", last[0], last[1], Piece("abcdef", [("text", "f")] + [("copy", 1, 39)]))
            told = compare(one, changed)
            self.assertEqual(told[1][-1], "o")


def shown_plainly(one, other, pairs, values, equals):
    """Whether lists of the right form show that two plans are alike, in the words of the document."""
    signs = {claim[:2]: claim[2] for claim in values}
    width = max(one.width, other.width)
    if (one.start, other.start) not in pairs:
        return False
    for pair in pairs:
        if one.out(pair[0]) != other.out(pair[1]):
            return False
        for edge in one.out(pair[0]):
            piece, another = one[edge][2], other[edge][2]
            behind = (one[edge][1], other[edge][1])
            if behind not in pairs or piece.holes() != another.holes() or len(piece) != len(another):
                return False
            if not closed_along(pair, behind, piece, another, width, signs, equals):
                return False
    return True


def closed_along(pair, behind, piece, another, width, signs, equals):
    def can(root):
        kind, told = root
        return told if kind == "sign" else piece.holes()[told] if kind == "hole" else signs[pair, told]

    def equal(root, against):
        if root == against:
            return True
        if root[0] == against[0] == "slot" and (pair, *sorted([root[1], against[1]])) in equals:
            return True
        return all(sign == other for sign in can(root) for other in can(against))

    roots = (text_roots(piece)[::-1] + [("slot", slot) for slot in range(1, width + 1)])[:width]
    for slot, root in enumerate(roots, 1):
        if not set(can(root)) <= set(signs[behind, slot]):
            return False
    if not all(equal(roots[slot - 1], roots[more - 1]) for at, slot, more in equals if at == behind):
        return False
    return all(equal(root, against) for root, against in zip(text_roots(piece), text_roots(another)))


class Claims(unittest.TestCase):
    one = Plan("ab", 2, "s", {
        "a": ("s", "t", Piece("ab", [("any", "ab"), ("copy", 1, 1)])), "b": ("t", "t", Piece("ab", [("copy", 1, 1)])),
    })
    other = Plan("ab", 2, "p", {
        "a": ("p", "q", Piece("ab", [("any", "ab"), ("say", 1, 1)])), "b": ("q", "q", Piece("ab", [("copy", 2, 1)])),
    })
    pairs, values, equals = alike_claims(one, other)

    def holds(self, *claims, one=None, other=None):
        before = [list(part) if isinstance(part, list) else part for part in claims]
        got = are_alike_claims(one or self.one, other or self.other, *claims)
        self.assertIs(type(got), bool)
        self.assertEqual([list(part) if isinstance(part, list) else part for part in claims], before)
        return got

    def test_told(self):
        self.assertEqual(self.pairs, [("s", "p"), ("t", "q")])
        self.assertEqual(self.values, [
            (("s", "p"), 1, ""), (("s", "p"), 2, ""), (("t", "q"), 1, "ab"), (("t", "q"), 2, "ab")])
        self.assertEqual(self.equals, [(("s", "p"), 1, 2), (("t", "q"), 1, 2)])
        self.assertTrue(self.holds(self.pairs, self.values, self.equals))

    def test_other_orders_and_twice(self):
        for pairs in itertools.permutations(self.pairs):
            for values in itertools.permutations(self.values):
                self.assertTrue(self.holds(list(pairs), list(values), self.equals[::-1]))
        self.assertTrue(self.holds(self.pairs * 3, self.values, self.equals * 2))
        self.assertFalse(self.holds(self.pairs, self.values * 2, self.equals))
        self.assertFalse(self.holds(self.pairs, self.values + self.values[:1], self.equals))

    def test_tuples_out(self):
        for at in range(2):
            self.assertFalse(self.holds(self.pairs[:at] + self.pairs[at + 1:], self.values, self.equals))
        for at in range(4):
            self.assertFalse(self.holds(self.pairs, self.values[:at] + self.values[at + 1:], self.equals))
        self.assertTrue(self.holds(self.pairs, self.values, self.equals[1:]))
        self.assertFalse(self.holds(self.pairs, self.values, self.equals[:1]))
        self.assertFalse(self.holds(self.pairs, self.values, []))
        self.assertFalse(self.holds([], [], []))

    def test_pairs_that_lack(self):
        first = [claim for claim in self.values if claim[0] == ("s", "p")]
        second = [claim for claim in self.values if claim[0] == ("t", "q")]
        self.assertFalse(self.holds([("s", "p")], first, self.equals[:1]))
        self.assertFalse(self.holds([("t", "q")], second, self.equals[1:]))

    def test_more_pairs(self):
        more = [(("t", "p"), 1, "ab"), (("t", "p"), 2, "ab")]
        self.assertFalse(self.holds(self.pairs + [("t", "p")], self.values + more, self.equals))
        self.assertFalse(self.holds(self.pairs + [("s", "q")], self.values + [(("s", "q"), slot, "") for slot in (1, 2)], self.equals))
        with_end = self.one.changed("x", "x", "y", A), self.other.changed("x", "x", "y", A)
        for end, right in [("y", True), ("x", False), ("s", False), ("zz", False)]:
            pairs = self.pairs + [("y", end)]
            values = self.values + [(("y", end), slot, "b") for slot in (1, 2)]
            self.assertIs(self.holds(pairs, values, self.equals, one=with_end[0], other=with_end[1]), right)
        # Pairs that no row comes to must be closed, too.
        pairs = self.pairs + [("x", "x"), ("y", "y")]
        for told, right in [("a", True), ("ab", True), ("b", False), ("", False)]:
            values = self.values + [((state, state), slot, "" if state == "x" else told) for state in "xy" for slot in (1, 2)]
            self.assertIs(self.holds(pairs, values, self.equals, one=with_end[0], other=with_end[1]), right)

    def test_parts_otherwise(self):
        for at, (pair, slot, told) in enumerate(self.values):
            for claim, right in [
                ((pair, slot, "ab"), True), ((pair, slot, ""), pair[0] == "s"), ((pair, slot, "a"), pair[0] == "s"), ((pair, slot, "b"), pair[0] == "s"),
                ((pair, slot, "ba"), False), ((pair, slot, "aa"), False), ((pair, slot, "abc"), False), ((pair, slot, "c"), False),
                ((pair, 0, told), False), ((pair, 3, told), False), ((pair, 3 - slot, told), False), ((pair[::-1], slot, told), False),
                ((list(pair), slot, told), False), ([pair, slot, told], False), ((pair[0], slot, told), False),
                ((pair, True if slot == 1 else "2", told), False), ((pair, slot, list(told)), False), ((pair, slot), False),
                ((pair, slot, told, told), False), ((pair + ("s",), slot, told), False),
            ]:
                self.assertIs(self.holds(self.pairs, self.values[:at] + [claim] + self.values[at + 1:], self.equals), right, claim)
        pair = ("t", "q")
        for claim in [
            (pair, 2, 1), (pair, 1, 1), (pair, 1, 3), (pair, 0, 1), (pair, True, 2), (pair, 1), (pair, 1, 2, 3), [pair, 1, 2],
            (list(pair), 1, 2), ("t", 1, 2), (("t", "p"), 1, 2), (("q", "t"), 1, 2), (pair, 1, "2"), (pair, 1, None), (("t",), 1, 2),
        ]:
            self.assertFalse(self.holds(self.pairs, self.values, self.equals + [claim]), claim)
        for thing in [["t", "q"], ("t",), ("t", "q", "q"), "tq", ("t", "z"), ("z", "q"), ("q", "t"), ("t", None), (None, "q"), ("t", ["q"]), (["t"], "q")]:
            self.assertFalse(self.holds(self.pairs + [thing], self.values, self.equals), thing)
            values = [(thing, slot, "ab") for slot in (1, 2)]
            self.assertFalse(self.holds(self.pairs + [thing], self.values + values, self.equals), thing)
            self.assertFalse(self.holds(self.pairs, self.values + values, self.equals), thing)
            self.assertFalse(self.holds(self.pairs, self.values, self.equals + [(thing, 1, 2)]), thing)

    def test_all_signs_and_all_equals_or_none(self):
        everything = [(pair, slot, "ab") for pair in self.pairs for slot in (1, 2)]
        every = [(pair, 1, 2) for pair in self.pairs]
        self.assertTrue(self.holds(self.pairs, everything, every))
        self.assertFalse(self.holds(self.pairs, everything, []))
        same = self.one, self.one
        pairs = [("s", "s"), ("t", "t")]
        everything = [(pair, slot, "ab") for pair in pairs for slot in (1, 2)]
        self.assertTrue(self.holds(pairs, everything, [], one=same[0], other=same[1]))
        self.assertFalse(self.holds(pairs, [(pair, slot, "") for pair in pairs for slot in (1, 2)], [], one=same[0], other=same[1]))

    def test_other_values(self):
        for thing in ODD:
            self.assertFalse(self.holds(thing, self.values, self.equals))
            self.assertFalse(self.holds(self.pairs, thing, self.equals))
            if thing != []:
                self.assertFalse(self.holds(self.pairs, self.values, thing))
            self.assertFalse(self.holds(self.pairs + [thing], self.values, self.equals))
            self.assertFalse(self.holds(self.pairs, self.values[1:] + [thing], self.equals))
            self.assertFalse(self.holds(self.pairs, self.values, self.equals + [thing]))
            for at in range(3):
                claim = list(self.values[-1])
                claim[at] = thing
                if type(thing) is not type(self.values[-1][at]) or thing != self.values[-1][at]:
                    self.assertFalse(self.holds(self.pairs, self.values[:-1] + [tuple(claim)], self.equals), repr(thing)[:50])
        for make in (tuple, lambda told: dict.fromkeys(told)):
            self.assertFalse(self.holds(make(self.pairs), self.values, self.equals))
            self.assertFalse(self.holds(self.pairs, make(self.values), self.equals))
            self.assertFalse(self.holds(self.pairs, self.values, make(self.equals)))

    def test_very_many_parts(self):
        many = self.pairs * 2000
        self.assertTrue(self.holds(many, self.values, self.equals * 2000))

    def test_plans_that_are_not_alike(self):
        other = self.other.changed("b", "q", "q", A)
        for values in (self.values, [(pair, slot, "ab") for pair in self.pairs for slot in (1, 2)]):
            for equals in (self.equals, []):
                self.assertFalse(self.holds(self.pairs, values, equals, other=other))
        self.assertFalse(self.holds(self.pairs, self.values, self.equals, other=self.other.without("b")))
        self.assertFalse(self.holds(self.pairs, self.values, self.equals, one=self.one.without("b")))
        self.assertFalse(self.holds(self.pairs, self.values, self.equals, other=self.other.changed("c", "q", "q", A)))
        self.assertFalse(self.holds(self.pairs, self.values, self.equals, other=self.other.changed("b", "q", "p", self.other["b"][2])))
        longer = self.other.changed("b", "q", "q", Piece("ab", [("copy", 1, 2)]))
        self.assertFalse(self.holds(self.pairs, self.values, self.equals, other=longer))
        filled = self.other.changed("a", "p", "q", Piece("ab", [("any", "b"), ("copy", 1, 1)]))
        self.assertFalse(self.holds(self.pairs, self.values, self.equals, other=filled))

    def test_changed_claims(self):
        chance = random.Random(93)
        seen = {True: 0, False: 0}
        for one, other in AtRandom().pairs(chance, 120):
            claims = alike_claims(one, other)
            if claims is None:
                continue
            for _ in range(6):
                pairs, values, equals = [list(part) for part in claims]
                for _ in range(chance.randint(0, 2)):
                    at = chance.randrange(len(values))
                    values[at] = values[at][:2] + (chance.choice(["", "a", "b", "ab", "ab"]),)
                equals = [claim for claim in equals if chance.random() < 0.9]
                if chance.random() < 0.3:
                    equals.append((chance.choice(pairs), *sorted(chance.sample(range(1, max(one.width, other.width) + 1), 2))))
                if chance.random() < 0.1:
                    pairs.append(chance.choice(pairs))
                chance.shuffle(values)
                right = shown_plainly(one, other, pairs, values, equals)
                self.assertIs(self.holds(pairs, values, equals, one=one, other=other), right)
                seen[right] += 1
        self.assertGreater(min(seen.values()), 80, seen)

    def test_lists_for_other_plans(self):
        """Lists that hold show that the plans are alike, whatever plans they were made for."""
        chance = random.Random(94)
        for one, other in AtRandom().pairs(chance, 150):
            slots = range(1, max(one.width, other.width) + 1)
            pairs = [(p, q) for p in one.reached() for q in other.reached()]
            values = [(pair, slot, "ab") for pair in pairs for slot in slots]
            told = compare(one, other)
            if told[0] != "alike":
                self.assertFalse(self.holds(pairs, values, [], one=one, other=other))
                few = [pair for pair in pairs if one.out(pair[0]) == other.out(pair[1])]
                values = [(pair, slot, "") for pair in few for slot in slots]
                equals = [(pair, *two) for pair in few for two in itertools.combinations(slots, 2)]
                self.assertFalse(self.holds(few, values, equals, one=one, other=other))


if __name__ == "__main__":
    unittest.main()
