import random
import unittest

from making import along, loops, made_plan, made_sound, one_line, raised
from test_pieces import FLUSH
from windowcuts.alone import beginnings, reads_alone, refused_path, settles
from windowcuts.counts import unsound
from windowcuts.damage import Damage, state_marks
from windowcuts.errors import Short, Unknown, Unreached, Unsound
from windowcuts.pieces import Piece
from windowcuts.plans import Plan
from windowcuts.reading import Reader
from windowcuts.rows import holes, stream

A = Piece("ab", [("text", "a")])


def refusal(plan, state):
    """The least number of edges of a path on which a reader that keeps nothing is refused, counted sign by sign."""
    found = {(state, 0): 0}
    queue = [(state, 0)]
    for at, kept in queue:
        for edge in plan.out(at):
            numbers = along(plan, edge, (at, kept, 0))
            for index, (kind, told) in enumerate(plan[edge][2].places()):
                if kind == "copy" and told > numbers[index][0]:
                    return found[at, kept] + 1
            behind = (plan[edge][1], numbers[-1][0])
            if behind not in found:
                found[behind] = found[at, kept] + 1
                queue.append(behind)
    return None


def row_to(plan, state):
    queue = [[]]
    for row in queue:
        at = plan[row[-1]][1] if row else plan.start
        if at == state:
            return row
        queue += [row + [name] for name in plan.out(at) if name not in row]
    raise AssertionError(state)


class ByHand(unittest.TestCase):
    def test_flushes_in_pieces(self):
        plan, row = one_line(
            [("text", "ab")], [("copy", 2, 1), FLUSH, ("text", "b"), ("copy", 1, 1)], [("copy", 2, 2), FLUSH], [("say", 3, 1), ("copy", 1, 1)])
        self.assertEqual(beginnings(plan), ["s", "v", "w"])
        self.assertEqual([refused_path(plan, state) for state in "stuvw"], [None, (["b"], 0), (["c"], 0), None, None])
        self.assertEqual([reads_alone(plan, state) for state in "stuvw"], [True, False, False, True, True])

    def test_the_first_place(self):
        plan, row = one_line([("text", "abab")], [("text", "a"), ("copy", 1, 2), ("copy", 4, 2), ("copy", 4, 2)], width=4)
        self.assertEqual(refused_path(plan, "t"), (["b"], 3))
        plan, row = one_line([("text", "abab")], [("text", "a"), ("copy", 1, 1)], [("text", "b"), ("copy", 4, 1), ("copy", 4, 1)], width=4)
        self.assertEqual(refused_path(plan, "t"), (["b", "c"], 1))
        self.assertEqual(refused_path(plan, "u"), (["c"], 1))

    def test_the_fewest_edges(self):
        edges = {
            "in": ("s", "t", Piece("ab", [("text", "aba")])), "a": ("t", "t", A), "b": ("t", "u", A), "c": ("u", "t", Piece("ab", [("copy", 2, 1)])),
            "d": ("u", "v", Piece("ab", [FLUSH, ("text", "a")])), "e": ("v", "v", A),
        }
        plan = Plan("ab", 3, "s", edges)
        self.assertEqual([refused_path(plan, state) for state in "tu"], [(["b", "c"], 0), (["c"], 0)])
        self.assertEqual(beginnings(plan), ["s", "v"])

    def test_rings(self):
        plan = Plan("ab", 3, "s", {
            "in": ("s", "t", Piece("ab", [("any", "ab")] * 3)), "on": ("t", "t", Piece("ab", [("text", "a"), ("copy", 1, 1)])),
            "off": ("t", "t", Piece("ab", [("copy", 3, 1)])),
        })
        self.assertEqual([beginnings(plan), refused_path(plan, "t")], [["s"], (["off"], 0)])
        self.assertEqual(beginnings(plan.without("off")), ["s", "t"])

    def test_a_reader_that_is_refused_late(self):
        edges = {"in": ("s", "t", Piece("ab", [("any", "ab")] * 12)), "end": ("u", "u", Piece("ab", [("text", "a" * 12)]))}
        edges["skip"] = ("t", "u", Piece("ab", [("text", "a"), ("copy", 12, 1)]))
        edges["on"] = ("t", "t", A)
        plan = Plan("ab", 12, "s", edges)
        self.assertEqual([refused_path(plan, "t"), reads_alone(plan, "u")], [(["skip"], 1), True])

    def test_no_edge(self):
        plan = Plan("ab", 3, "q", {"a": ("s", "t", A)})
        self.assertEqual([reads_alone(plan, "q"), refused_path(plan, "q"), beginnings(plan), settles(plan, "q")], [True, None, ["q"], 0])

    def test_unsound_edges_that_no_row_has(self):
        plan = Plan("ab", 3, "s", {"a": ("s", "t", A), "x": ("x", "t", Piece("ab", [("copy", 3, 1)]))})
        self.assertEqual(beginnings(plan), ["s", "t"])

    def test_settles(self):
        plan, row = one_line([("text", "ab")], [("copy", 2, 1), ("text", "b"), ("copy", 2, 1)], [("copy", 1, 2)])
        self.assertEqual([settles(plan, state) for state in "stuv"], [0, 5, 2, 0])
        ring = Plan("ab", 3, "s", {"a": ("s", "t", A), "b": ("t", "t", Piece("ab", [("copy", 1, 1)]))})
        self.assertEqual([settles(ring, "s"), settles(ring, "t")], [0, None])
        loop = loops(3, a=[("any", "ab"), ("copy", 1, 1)])
        self.assertEqual(settles(loop, "s"), 0)


class Errors(unittest.TestCase):
    calls = (reads_alone, refused_path, settles)

    def test_unsound_first(self):
        plan, _ = one_line([("text", "a"), ("copy", 3, 4)])
        for call in self.calls:
            error = raised(self, Unsound, call, plan, "z")
            self.assertEqual((error.edge, error.index), ("a", 1))
        self.assertEqual(raised(self, Unsound, beginnings, plan).index, 1)

    def test_unknown_and_unreached(self):
        plan = Plan("ab", 3, "s", {"a": ("s", "t", A), "x": ("x", "y", A)})
        for call in self.calls:
            for name in ("z", "a"):
                self.assertEqual(raised(self, Unknown, call, plan, name).name, name)
            for name in "xy":
                self.assertEqual(raised(self, Unreached, call, plan, name).name, name)

    def test_unsound_plans(self):
        chance = random.Random(70)
        for _ in range(100):
            plan = made_plan(chance)
            for call in (lambda: beginnings(plan), lambda: settles(plan, "z"), lambda: refused_path(plan, "z")):
                if unsound(plan):
                    error = raised(self, Unsound, call)
                    self.assertEqual((error.edge, error.index), unsound(plan)[0])


class AtRandom(unittest.TestCase):
    def test_against_readers(self):
        chance = random.Random(71)
        seen = [0, 0, 0]
        for at in range(300):
            plan = made_sound(chance, **[
                {"filled": True}, {"width": 5, "filled": True, "edges": "abcde", "states": "stuv", "most": 1}, {}][at % 3])
            before = plan.edges()
            free = []
            for state in plan.reached():
                least = refusal(plan, state)
                told = refused_path(plan, state)
                self.assertIs(reads_alone(plan, state), least is None)
                self.assertEqual(settles(plan, state), Damage(plan, state_marks(plan, state)).until())
                if least is None:
                    self.assertIs(told, None)
                    free.append(state)
                else:
                    self.assertEqual(len(told[0]), least)
                    self.check_path(plan, state, *told)
                    seen[min(least, 3) - 1] += 1
                    told[0].append(None)
            self.assertEqual([beginnings(plan), beginnings(plan)], [free, free])
            self.assertEqual(plan.edges(), before)
        self.assertGreater(min(seen), 5, seen)

    def check_path(self, plan, state, path, index):
        """A reader of the path alone is refused first at this place of its last edge."""
        row = row_to(plan, state)
        blocks = stream(plan, row + path, [choice[0] for choice in holes(plan, row + path)])[len(row):]
        reader = Reader(plan.signs, plan.width)
        for block in blocks[:-1]:
            reader.read_all(block)
        ahead = len(reader)
        with self.assertRaises(Short):
            for token in blocks[-1]:
                reader.read(token)
        # It is refused at the first sign of a token, so it has written all that was ahead.
        self.assertEqual(len(reader) - ahead, index)

    def test_order_of_edges(self):
        chance = random.Random(72)
        for _ in range(60):
            plan = made_sound(chance, filled=True)
            edges = plan.edges()
            other = Plan(plan.signs, plan.width, plan.start, {name: edges[name] for name in list(edges)[::-1]})
            for state in plan.reached():
                self.assertEqual(refused_path(plan, state), refused_path(other, state))
                self.assertEqual(settles(plan, state), settles(other, state))
            self.assertEqual(beginnings(plan), beginnings(other))


if __name__ == "__main__":
    unittest.main()
