import random
import unittest

from making import check_new, hung, made_plan, made_sound, one_line, raised, sixteen, turned
from test_pieces import FLUSH
from windowcuts.counts import unsound
from windowcuts.damage import Damage
from windowcuts.errors import Unknown, Unreached, Unsound
from windowcuts.live import live, live_path
from windowcuts.pieces import Piece
from windowcuts.plans import Plan
from windowcuts.reading import Reader
from windowcuts.rows import holes, stream

A = Piece("ab", [("text", "a")])


def shortest(plan, state, slot):
    """The least number of edges of a path in whose last edge a place is spoilt, by all paths, or None."""
    found = {(state, frozenset([slot])): 0}
    queue = list(found)
    for node in queue:
        for edge in plan.out(node[0]):
            places, slots = hung(plan[edge][2], plan.width, node[1])
            if places:
                return found[node] + 1
            behind = (plan[edge][1], slots)
            if behind not in found:
                found[behind] = found[node] + 1
                queue.append(behind)
    return None


def spoilt_last(plan, state, slot, path):
    """The places of the last edge of a path that are spoilt for a slot along it."""
    slots = {slot}
    for edge in path:
        if edge not in plan.out(state):
            return None
        places, slots = hung(plan[edge][2], plan.width, slots)
        state = plan[edge][1]
    return places


class ByHand(unittest.TestCase):
    def told(self, plan, state):
        return [live_path(plan, state, slot) for slot in range(1, plan.width + 1)]

    def test_at_once_behind_several_edges_and_never(self):
        plan, _ = one_line([("any", "ab")] * 4, [("text", "a"), ("copy", 3, 1)], [("copy", 5, 1), ("copy", 1, 1), ("copy", 6, 1)], [("copy", 1, 1)], width=6)
        # Behind two more signs, slot 3 of t is the one five back, and slot 4 the one six back.
        self.assertEqual(live(plan, "t"), [2, 3])
        self.assertEqual(self.told(plan, "t"), [None, (["b"], 1), (["b", "c"], 0), None, None, None])
        self.assertEqual([live(plan, "u"), live(plan, "v"), live(plan, "w"), live(plan, "s")], [[4, 5], [1], [], []])

    def test_the_least_index(self):
        plan, _ = one_line([("any", "ab")] * 3, [("text", "a"), ("copy", 3, 1), ("copy", 1, 1), ("copy", 5, 1)], width=6)
        self.assertEqual(self.told(plan, "t"), [None, (["b"], 1), None, None, None, None])
        both, _ = one_line([("any", "ab")] * 3, [("copy", 3, 1), ("copy", 3, 1), ("copy", 5, 1)], width=6)
        self.assertEqual(self.told(both, "t"), [None, (["b"], 1), (["b"], 0), None, None, None])

    def test_the_fewest_edges(self):
        plan = Plan("ab", 3, "s", {
            "in": ("s", "t", Piece("ab", [("any", "ab")])), "a": ("t", "u", A), "b": ("u", "v", Piece("ab", [("copy", 2, 1)])),
            "c": ("t", "x", A), "d": ("x", "u", A), "e": ("u", "y", Piece("ab", [("text", "a")])), "f": ("y", "y", Piece("ab", [("copy", 3, 1)])),
        })
        self.assertEqual(live_path(plan, "t", 1), (["a", "b"], 0))
        self.assertEqual(live(plan, "t"), [1])
        self.assertEqual(live_path(plan.without("b"), "t", 1), (["a", "e", "f"], 0))

    def test_rings(self):
        plan = Plan("ab", 4, "s", {
            "in": ("s", "t", Piece("ab", [("any", "ab")] * 4)), "on": ("t", "t", A), "off": ("t", "u", Piece("ab", [("copy", 4, 1), ("copy", 1, 3)])),
        })
        self.assertEqual(live(plan, "t"), [1, 2, 3, 4])
        self.assertEqual(self.told(plan, "t"), [
            (["on", "on", "on", "off"], 0), (["on", "on", "off"], 0), (["on", "off"], 0), (["off"], 0)])
        ring = Plan("ab", 2, "s", {"in": ("s", "t", A + A), "on": ("t", "t", Piece("ab", [("copy", 2, 1)]))})
        self.assertEqual(self.told(ring, "t"), [(["on", "on"], 0), (["on"], 0)])

    def test_says_and_flushes(self):
        plan, _ = one_line([("text", "ab")], [("say", 2, 1), FLUSH, ("text", "a"), ("say", 3, 1)], [("text", "b"), ("say", 3, 1)])
        self.assertEqual([live(plan, state) for state in "stuv"], [[], [], [], []])
        plan, _ = one_line([("text", "ab")], [("copy", 2, 1), FLUSH])
        self.assertEqual(self.told(plan, "t"), [None, (["b"], 0), None])

    def test_no_edge(self):
        plan = Plan("ab", 3, "q", {"a": ("s", "t", A)})
        self.assertEqual([live(plan, "q"), self.told(plan, "q")], [[], [None] * 3])


class Errors(unittest.TestCase):
    plan = Plan("ab", 3, "s", {"a": ("s", "t", A), "x": ("x", "y", A)})

    def test_in_order(self):
        short, _ = one_line([("text", "a"), ("copy", 3, 4)])
        for call in (live, lambda plan, state: live_path(plan, state, 1)):
            error = raised(self, Unsound, call, short, "zz")
            self.assertEqual((error.edge, error.index), ("a", 1))
            for name in ("z", "a"):
                self.assertEqual(raised(self, Unknown, call, self.plan, name).name, name)
            for name in "xy":
                self.assertEqual(raised(self, Unreached, call, self.plan, name).name, name)

    def test_unsound_plans(self):
        chance = random.Random(140)
        for _ in range(40):
            plan = made_plan(chance)
            if unsound(plan):
                error = raised(self, Unsound, live, plan, "zz")
                self.assertEqual((error.edge, error.index), unsound(plan)[0])


class AtRandom(unittest.TestCase):
    def test_against_all_paths(self):
        chance = random.Random(141)
        seen = {"never": 0, "at once": 0, "later": 0}
        for at in range(250):
            plan = made_sound(chance, **[{"filled": True}, {"filled": True, "width": 5, "states": "stuv", "edges": "abcde", "most": 1}, {}][at % 3])
            before = plan.edges()
            for state in plan.reached():
                found = []
                for slot in range(1, plan.width + 1):
                    least = shortest(plan, state, slot)
                    told = live_path(plan, state, slot)
                    self.assertEqual(bool(Damage(plan, [(state, slot)]).places()), least is not None)
                    if least is None:
                        self.assertIs(told, None)
                        seen["never"] += 1
                    else:
                        found.append(slot)
                        self.assertEqual((type(told), len(told[0])), (tuple, least))
                        self.assertEqual(told[1], min(spoilt_last(plan, state, slot, told[0])))
                        seen["at once" if least == 1 else "later"] += 1
                    self.assertEqual(live_path(turned(plan), state, slot), told)
                    self.assertEqual(check_new(self, lambda: live_path(plan, state, slot)), told)
                self.assertEqual(live(plan, state), found)
                self.assertEqual(check_new(self, lambda: live(plan, state)), found)
            self.assertEqual(plan.edges(), before)
        self.assertGreater(min(seen.values()), 50, seen)

    def test_readers_with_marks(self):
        """A reader with marks in all other slots writes none; one with a mark in a live slot writes it on the path told."""
        chance = random.Random(142)
        seen = [0, 0]
        for _ in range(80):
            plan = made_sound(chance, filled=True, width=4)
            for state in plan.reached():
                row = self.row_to(plan, state)
                slots = live(plan, state)
                for _ in range(3):
                    path, at = [], state
                    for _ in range(5):
                        if plan.out(at):
                            path.append(chance.choice(plan.out(at)))
                            at = plan[path[-1]][1]
                    quiet = [slot for slot in range(1, plan.width + 1) if slot not in slots]
                    self.assertNotIn("?", self.read(plan, row, path, quiet))
                    seen[0] += len(quiet) > 0 and len(path) > 0
                for slot in slots:
                    path, index = live_path(plan, state, slot)
                    text = self.read(plan, row, path, [slot])
                    self.assertEqual(text.index("?"), sum(len(plan[name][2]) for name in path[:-1]) + index)
                    seen[1] += 1
        self.assertGreater(min(seen), 50, seen)

    def row_to(self, plan, state):
        rows = [[]]
        for row in rows:
            at = plan[row[-1]][1] if row else plan.start
            if at == state:
                return row
            rows += [row + [name] for name in plan.out(at) if name not in row]

    def read(self, plan, row, path, slots):
        """What a reader writes on a path that keeps marks in these slots, so far as it keeps any there."""
        whole = row + path
        blocks = stream(plan, whole, [choice[0] for choice in holes(plan, whole)])
        ahead = Reader(plan.signs, plan.width)
        for block in blocks[:len(row)]:
            ahead.read_all(block)
        reader = Reader(plan.signs, plan.width)
        for slot in range(len(ahead.kept()), 0, -1):
            if slot in slots:
                reader.lost(1)
            else:
                reader.read(("text", ahead.kept()[-slot]))
        return "".join(reader.read_all(block) for block in blocks[len(row):])

    def test_sixteen_edges(self):
        for kind in ("any", "copies", "fixed"):
            plan = sixteen(kind)
            for state in plan.reached():
                for slot in live(plan, state):
                    path, index = live_path(plan, state, slot)
                    self.assertEqual(min(spoilt_last(plan, state, slot, path)), index)


if __name__ == "__main__":
    unittest.main()
