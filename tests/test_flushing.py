import itertools
import random
import unittest

from making import along, check_new, hangings, made_plan, made_sound, one_line, raised, sixteen, turned
from test_damage import counted
from test_pieces import FLUSH
from windowcuts.counts import unsound
from windowcuts.damage import Damage, lost_marks
from windowcuts.errors import Unknown, Unreached, Unsound
from windowcuts.flushing import cheapest_flushes, flushed, too_late, worst_loss
from windowcuts.likes import compare
from windowcuts.pieces import Piece
from windowcuts.plans import Plan
from windowcuts.rows import holes, rows_upto, texts

A = Piece("ab", [("text", "a")])
SHORT, _ = one_line([("text", "a"), ("copy", 3, 4)])


def least_kept_by_hand(plan):
    """For each state, the least number of signs that a reader keeps, counted sign by sign."""
    found = {(plan.start, 0)}
    queue = [(plan.start, 0)]
    for state, kept in queue:
        for edge in plan.out(state):
            behind = (plan[edge][1], along(plan, edge, (state, kept, 0))[-1][0])
            if behind not in found:
                found.add(behind)
                queue.append(behind)
    return {state: min(kept for at, kept in found if at == state) for state, _ in found}


def flushed_by_hand(plan, states):
    edges = {}
    for edge, (source, target, piece) in plan.edges().items():
        flushes = piece.flushes() + [0] * (source in states)
        edges[edge] = (source, target, Piece.of_places(plan.signs, piece.places(), flushes))
    cut = Plan(plan.signs, plan.width, plan.start, edges)
    kept = least_kept_by_hand(cut)
    for edge in plan.edges():
        source, target, piece = cut[edge]
        if source in kept:
            numbers = along(cut, edge, (source, kept[source], 0))
            places = [("say", told) if kind == "copy" and told > numbers[index][0] else (kind, told)
                      for index, (kind, told) in enumerate(piece.places())]
            edges[edge] = (source, target, Piece.of_places(plan.signs, places, piece.flushes()))
    return Plan(plan.signs, plan.width, plan.start, edges)


def until_by_hand(plan, edge):
    """Until when a lost piece of an edge spoils places, or None, for each of its marks by all paths."""
    numbers = [counted(plan, mark)[2] for mark in lost_marks(plan, edge)]
    return None if None in numbers else max([0] + numbers)


def late(until):
    return float("inf") if until is None else until


class Flushed(unittest.TestCase):
    plan = Plan("ab", 3, "s", {
        "in": ("s", "t", Piece("ab", [("any", "ab"), ("text", "a"), ("text", "b")])),
        "on": ("t", "t", Piece("ab", [("copy", 3, 4), ("copy", 1, 1), ("copy", 1, 1)])),
        "out": ("t", "u", Piece("ab", [FLUSH, ("say", 2, 1), ("copy", 1, 2)])), "end": ("u", "v", Piece("ab", [("text", "b"), ("copy", 3, 2)])),
        "x": ("x", "t", Piece("ab", [("copy", 2, 1), ("copy", 2, 1), ("copy", 3, 1)])),
    })

    def tokens(self, states):
        told = flushed(self.plan, states)
        self.assertEqual([told.signs, told.width, told.start], ["ab", 3, "s"])
        self.assertEqual({edge: told[edge][:2] for edge in told.edges()}, {edge: self.plan[edge][:2] for edge in self.plan.edges()})
        return {edge: told[edge][2].tokens() for edge in told.edges()}

    merged = {
        "in": [("any", "ab"), ("text", "ab")], "on": [("copy", 3, 4), ("copy", 1, 2)], "out": [FLUSH, ("say", 2, 1), ("copy", 1, 2)],
        "end": [("text", "b"), ("copy", 3, 2)], "x": [("copy", 2, 2), ("copy", 3, 1)],
    }

    def test_no_state(self):
        self.assertEqual(self.tokens([]), self.merged)

    def test_one_state(self):
        self.assertEqual(self.tokens(["s"]), {**self.merged, "in": [FLUSH] + self.merged["in"]})
        self.assertEqual(self.tokens(["t"]), {**self.merged, "on": [FLUSH, ("say", 3, 3), ("copy", 3, 1), ("copy", 1, 2)]})
        self.assertEqual(self.tokens(["u"]), {**self.merged, "end": [FLUSH, ("text", "b"), ("say", 3, 2)]})
        self.assertEqual(self.tokens(["v"]), self.merged)

    def test_several_and_twice(self):
        both = {**self.merged, "on": [FLUSH, ("say", 3, 3), ("copy", 3, 1), ("copy", 1, 2)], "end": [FLUSH, ("text", "b"), ("say", 3, 2)]}
        for states in (["t", "u"], ["u", "t", "u", "v", "t"]):
            before = list(states)
            self.assertEqual(self.tokens(states), both)
            self.assertEqual(states, before)

    def test_what_is_refused_later(self):
        plan, _ = one_line([("text", "ab")], [("text", "a")], [("copy", 3, 1)], [("copy", 3, 2), ("copy", 1, 1)])
        told = flushed(plan, ["t"])
        self.assertEqual([told[edge][2].tokens() for edge in "abcd"], [
            [("text", "ab")], [FLUSH, ("text", "a")], [("say", 3, 1)], [("say", 3, 1), ("copy", 3, 1), ("copy", 1, 1)]])

    def test_a_flush_within_a_piece_stays(self):
        plan, _ = one_line([("text", "ab")], [("copy", 2, 1), FLUSH, ("text", "ab"), ("copy", 1, 1), FLUSH])
        self.assertEqual(flushed(plan, ["t"])["b"][2].tokens(), [FLUSH, ("say", 2, 1), FLUSH, ("text", "ab"), ("copy", 1, 1), FLUSH])

    def test_edges_that_no_row_has(self):
        plan = self.plan.changed("x", "t", "x", self.plan["x"][2])
        self.assertEqual(flushed(plan, ["t"])["x"][2].tokens(), [FLUSH, ("say", 2, 2), ("say", 3, 1)])

    def test_errors(self):
        error = raised(self, Unsound, flushed, SHORT, ["zz"])
        self.assertEqual((error.edge, error.index), ("a", 1))
        for states, kind, name in [
            (["x", "z", "q"], Unknown, "z"), (["in"], Unknown, "in"), (["t", "x", "s"], Unreached, "x"), (["x"], Unreached, "x"),
        ]:
            self.assertEqual(raised(self, kind, flushed, self.plan, states).name, name)

    def test_at_random(self):
        chance = random.Random(130)
        said = 0
        for at in range(200):
            plan = made_sound(chance, **[{}, {"filled": True}, {"width": 5, "filled": True}][at % 3])
            if at % 4 == 0:
                plan = plan.changed("zz", "zzz", plan.start, Piece("ab", [("copy", 3, 1), ("copy", 3, 1)]))
            states = chance.choices(plan.reached(), k=chance.randint(0, 3))
            before = plan.edges(), list(states)
            told = flushed(plan, states)
            self.assertEqual((plan.edges(), states), before)
            self.assertEqual(told, flushed_by_hand(plan, states))
            self.assertEqual(flushed(turned(plan), states[::-1]), told)
            self.assertEqual([unsound(told), compare(plan, told)[0]], [[], "alike"])
            for edge in plan.used():
                self.assertIs(0 in told[edge][2].flushes(), plan[edge][0] in states or 0 in plan[edge][2].flushes())
            for row in rows_upto(plan, 3):
                fill = [chance.choice(choice) for choice in holes(plan, row)]
                self.assertEqual(texts(told, row, fill), texts(plan, row, fill))
            said += told != flushed(plan, [])
        self.assertGreater(said, 60)

    def test_sixteen_edges(self):
        for kind in ("any", "copies", "fixed"):
            plan = sixteen(kind)
            told = flushed(plan, plan.reached())
            self.assertEqual([unsound(told), compare(plan, told)[0]], [[], "alike"])


class Worst(unittest.TestCase):
    def test_by_hand(self):
        plan, _ = one_line([("any", "ab"), ("text", "ab")], [("copy", 3, 1), ("text", "b")], [("copy", 2, 1), ("copy", 2, 1)])
        self.assertEqual(worst_loss(plan), ("a", 3))
        self.assertEqual(worst_loss(flushed(plan, ["t"])), ("b", 2))
        self.assertEqual(worst_loss(flushed(plan, ["t", "u"])), ("a", 0))

    def test_none_and_equal_numbers(self):
        ring = Plan("ab", 3, "s", {
            "a": ("s", "t", Piece("ab", [("text", "ab")])), "b": ("s", "u", A), "c": ("u", "u", Piece("ab", [("copy", 1, 1)])),
            "d": ("t", "v", Piece("ab", [("copy", 1, 1)])),
        })
        self.assertEqual(worst_loss(ring), ("b", None))
        self.assertEqual(worst_loss(ring.without("b")), ("a", 1))
        self.assertEqual(worst_loss(ring.changed("aa", "s", "u", A)), ("aa", None))
        equal, _ = one_line([("text", "ab")], [("copy", 1, 1)], [("copy", 1, 1)], [("text", "a")])
        self.assertEqual(worst_loss(equal), ("a", 2))
        same = Plan("ab", 3, "s", {"b": ("s", "t", A), "a": ("s", "t", A), "c": ("t", "u", Piece("ab", [("copy", 1, 1)]))})
        self.assertEqual(worst_loss(same), ("a", 1))
        self.assertEqual(worst_loss(same.changed("c", "t", "u", A)), ("a", 0))

    def test_no_edge(self):
        self.assertIs(worst_loss(Plan("ab", 3, "q", {"a": ("s", "t", A)})), None)

    def test_edges_that_no_row_has(self):
        plan = Plan("ab", 3, "s", {"b": ("s", "t", A), "a": ("x", "y", A), "c": ("y", "y", Piece("ab", [("copy", 1, 1)]))})
        self.assertEqual(worst_loss(plan), ("b", 0))

    def test_unsound(self):
        error = raised(self, Unsound, worst_loss, SHORT)
        self.assertEqual((error.edge, error.index), ("a", 1))

    def test_at_random(self):
        chance = random.Random(131)
        seen = {None: 0, "number": 0, "ties": 0}
        for at in range(200):
            plan = made_sound(chance, **[{"filled": True}, {"filled": True, "onward": True, "states": "stuv"}, {}][at % 3])
            untils = {edge: until_by_hand(plan, edge) for edge in plan.used()}
            for edge, until in untils.items():
                self.assertEqual(Damage(plan, lost_marks(plan, edge)).until(), until)
            if not untils:
                self.assertIs(worst_loss(plan), None)
                continue
            worst = max(untils.values(), key=late)
            first = min(edge for edge, until in untils.items() if until == worst)
            self.assertEqual(worst_loss(plan), (first, worst))
            self.assertEqual(worst_loss(turned(plan)), (first, worst))
            seen[None if worst is None else "number"] += 1
            seen["ties"] += list(untils.values()).count(worst) > 1
        self.assertGreater(min(seen.values()), 8, seen)


class Cheapest(unittest.TestCase):
    plan = Plan("ab", 2, "s", {
        "a": ("s", "t", A + A), "b": ("t", "t", Piece("ab", [("copy", 2, 1)])), "c": ("t", "u", A), "d": ("u", "u", Piece("ab", [("copy", 1, 1)])),
        "e": ("u", "v", Piece("ab", [("copy", 2, 1), ("text", "b")])),
    })

    def test_by_hand(self):
        both = [("t", 3), ("u", 4)]
        for candidates, limit, told in [
            (both, 0, (7, (0, 1))), (both[::-1], 0, (7, (0, 1))), ([("t", 3)], 0, None), ([], 1000, None), ([], 0, None),
            ([("v", 0), ("u", 0), ("t", 0), ("s", 0)], 0, (0, (0, 1, 2))), ([("s", 1), ("t", 0), ("v", 0), ("u", 0)], 0, (0, (1, 2, 3))),
            ([("s", 1), ("t", 0), ("v", 1), ("u", 0)], 1000, (0, (1, 3))),
        ]:
            self.assertEqual(cheapest_flushes(self.plan, candidates, limit), told, candidates)

    def test_the_first_choice(self):
        plan, _ = one_line([("any", "ab")], [("copy", 1, 1)], [("copy", 1, 1)], [("text", "a")])
        # Flushed at t, or at u, no more than one sign hangs on another piece; the first one in order is told.
        for candidates, told in [
            ([("t", 2), ("u", 2)], (2, (0,))), ([("u", 2), ("t", 2)], (2, (0,))), ([("t", 2), ("u", 1)], (1, (1,))), ([("v", 0), ("t", 2), ("u", 2)], (2, (0, 1))),
            ([("v", 0), ("u", 2), ("t", 2)], (2, (0, 1))), ([("v", 1), ("u", 2), ("t", 2)], (2, (1,))), ([("t", 1), ("u", 0), ("v", 0), ("s", 0)], (0, (1,))),
        ]:
            self.assertEqual(cheapest_flushes(plan, candidates, 1), told, candidates)
        for limit in (2, 3, 1000):
            self.assertEqual(cheapest_flushes(plan, [("t", 0), ("u", 0)], limit), (0, ()))
        self.assertEqual(cheapest_flushes(plan, [("t", 1), ("u", 1)], 0), (2, (0, 1)))
        self.assertIs(cheapest_flushes(plan, [("t", 1), ("v", 1)], 0), None)

    def test_great_prices(self):
        big = 10 ** 18
        self.assertEqual(cheapest_flushes(self.plan, [("t", big), ("u", big), ("s", 0)], 0), (2 * big, (0, 1)))

    def test_no_edge(self):
        bare = Plan("ab", 3, "q", {"a": ("s", "t", A)})
        self.assertEqual([cheapest_flushes(bare, [], 0), cheapest_flushes(bare, [("q", 5)], 0), too_late(bare, 0)], [(0, ()), (0, ()), None])

    def test_errors(self):
        error = raised(self, Unsound, cheapest_flushes, SHORT, [("zz", 1)], 0)
        self.assertEqual((error.edge, error.index), ("a", 1))
        plan = self.plan.changed("x", "x", "y", A)
        for candidates, kind, name in [
            ([("x", 1), ("z", 1), ("w", 1)], Unknown, "z"), ([("s", 1), ("a", 1)], Unknown, "a"), ([("s", 1), ("y", 1), ("x", 1)], Unreached, "y"),
        ]:
            self.assertEqual(raised(self, kind, cheapest_flushes, plan, candidates, 0).name, name)

    def test_at_random(self):
        chance = random.Random(132)
        seen = {"none": 0, "nothing": 0, "some": 0}
        for at in range(150):
            plan = made_sound(chance, filled=True, **[{}, {"onward": True, "states": "stuv"}][at % 2])
            states = plan.reached()
            candidates = [(state, chance.choice([0, 1, 1, 2, 3])) for state in chance.sample(states, min(len(states), chance.randint(0, 4)))]
            limit = chance.choice([0, 1, 2, 3, 5, 1000])
            before = plan.edges(), list(candidates)
            told = cheapest_flushes(plan, candidates, limit)
            self.assertEqual((plan.edges(), candidates), before)
            right = []
            for many in range(len(candidates) + 1):
                for choice in itertools.combinations(range(len(candidates)), many):
                    cut = flushed_by_hand(plan, [candidates[index][0] for index in choice])
                    if all(late(until_by_hand(cut, edge)) <= limit for edge in cut.used()):
                        right.append((sum(candidates[index][1] for index in choice), choice))
            self.assertEqual(told, min(right) if right else None)
            self.assertEqual(cheapest_flushes(turned(plan), candidates, limit), told)
            seen["none" if told is None else "some" if told[1] else "nothing"] += 1
        self.assertGreater(min(seen.values()), 20, seen)

    def test_sixteen_edges(self):
        for kind in ("any", "copies", "fixed"):
            plan = sixteen(kind)
            candidates = [(state, 7) for state in plan.reached()[:4]]
            for limit in (0, 40, 1000):
                told = cheapest_flushes(plan, candidates, limit)
                self.assertTrue(told is None or len(told) == 2)
            self.assertIn(worst_loss(plan)[0], plan.edges())


class TooLate(unittest.TestCase):
    def check(self, plan, limit):
        told = too_late(plan, limit)
        self.assertEqual(too_late(turned(plan), limit), told)
        self.assertEqual(check_new(self, lambda: too_late(plan, limit)), told)
        late_edges = [edge for edge in plan.used() if late(until_by_hand(plan, edge)) > limit]
        if told is None:
            self.assertEqual(late_edges, [])
            return None
        edge, path, index = told
        self.assertIn(edge, late_edges)
        self.assertEqual((type(told), type(path)), (tuple, list))
        self.assertGreater(sum(len(plan[name][2]) for name in path[:-1]) + index + 1, limit)
        self.assertTrue(any(self.hangs(plan, mark, path, index) for mark in lost_marks(plan, edge)))
        return told

    def hangs(self, plan, mark, path, index):
        """Whether a place in the last edge of a path is spoilt for a mark, sign by sign."""
        line = [slot == mark[1] for slot in range(plan.width, 0, -1)]
        state = mark[0]
        for edge in path:
            self.assertIn(edge, plan.out(state))
            begin = len(line)
            for kind, told in plan[edge][2].places():
                line.append(kind == "copy" and line[-told])
            state = plan[edge][1]
        return line[begin + index]

    def test_by_hand(self):
        plan, _ = one_line([("any", "ab"), ("text", "ab")], [("copy", 3, 1), ("text", "b")], [("copy", 2, 1), ("copy", 2, 1)])
        self.assertEqual(too_late(plan, 2), ("a", ["b", "c"], 0))
        self.assertEqual([self.check(plan, limit) for limit in (3, 4, 1000)], [None] * 3)
        self.assertIsNot(self.check(plan, 0), None)
        self.assertEqual(too_late(flushed(plan, ["t"]), 1), ("b", ["c"], 1))
        self.assertIs(too_late(flushed(plan, ["t", "u"]), 0), None)

    def test_rings(self):
        ring = Plan("ab", 2, "s", {
            "in": ("s", "t", Piece("ab", [("any", "ab"), ("text", "a")])), "on": ("t", "u", Piece("ab", [("copy", 2, 1)])),
            "back": ("u", "t", Piece("ab", [("copy", 2, 1)])),
        })
        for limit in (0, 1, 2, 3, 10, 999, 1000):
            self.assertIsNot(self.check(ring, limit), None)
        # The sign is copied once on each round, behind many others.
        slow = Plan("ab", 12, "s", {"in": ("s", "t", A * 12), "on": ("t", "t", Piece("ab", [("text", "ab" * 5), ("copy", 12, 1), ("text", "b")]))})
        for limit in (0, 10, 11, 500, 1000):
            self.assertIsNot(self.check(slow, limit), None)

    def test_a_path_that_ends_at_the_limit(self):
        plan = Plan("ab", 6, "s", {
            "in": ("s", "t", Piece("ab", [("any", "ab")] * 3)), "x": ("t", "u", A), "y": ("t", "v", A + A),
            "k": ("u", "w", Piece("ab", [("copy", 2, 1)])), "m": ("v", "w", Piece("ab", [("copy", 3, 1)])),
        })
        self.assertEqual(self.check(plan, 2), ("in", ["y", "m"], 0))
        self.assertIs(self.check(plan, 3), None)

    def test_a_last_place_later_than_the_limit(self):
        plan, _ = one_line([("any", "ab")], [("copy", 1, 40)], [("text", "a"), ("copy", 1, 3)])
        for limit in (0, 20, 38, 39):
            self.assertIsNot(self.check(plan, limit), None)
        self.assertIs(self.check(plan, 40), None)

    def test_unsound(self):
        error = raised(self, Unsound, too_late, SHORT, 3)
        self.assertEqual((error.edge, error.index), ("a", 1))
        chance = random.Random(133)
        for _ in range(40):
            plan = made_plan(chance)
            if unsound(plan):
                for call in (lambda: too_late(plan, 0), lambda: worst_loss(plan), lambda: flushed(plan, []), lambda: cheapest_flushes(plan, [], 0)):
                    error = raised(self, Unsound, call)
                    self.assertEqual((error.edge, error.index), unsound(plan)[0])

    def test_at_random(self):
        chance = random.Random(134)
        seen = {True: 0, False: 0}
        for at in range(200):
            plan = made_sound(chance, **[{"filled": True}, {"filled": True, "onward": True, "states": "stuv"}, {}][at % 3])
            for limit in (0, 1, 2, 5, chance.randint(3, 30)):
                seen[self.check(plan, limit) is None] += 1
        self.assertGreater(min(seen.values()), 100, seen)

    def test_sixteen_edges(self):
        for kind in ("any", "copies", "fixed"):
            plan = sixteen(kind)
            told = too_late(plan, 1000)
            if told is not None:
                self.assertTrue(any(self.hangs(plan, mark, *told[1:]) for mark in lost_marks(plan, told[0])))
            self.assertIs(told is None, late(worst_loss(plan)[1]) <= 1000)


if __name__ == "__main__":
    unittest.main()
