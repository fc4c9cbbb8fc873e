import random
import unittest

from making import check_new, fills, loops, made_plan, made_sound, one_line, raised, sixteen, turned, went_on, worlds
from test_pieces import FLUSH
from windowcuts.counts import unsound
from windowcuts.errors import Short, Unknown, Unlike, Unreached, Unsound
from windowcuts.joins import join
from windowcuts.pieces import Piece
from windowcuts.plans import Plan
from windowcuts.reading import Reader
from windowcuts.rows import holes, stream

A = Piece("ab", [("text", "a")])


def begun(plan, state, other, its):
    """All tuples of what another plan has written, and what a reader of the plan keeps, where it goes on."""
    ours = {(tail, kept) for at, tail, kept in worlds(plan) if at == state}
    others = {tail for at, tail, _ in worlds(other) if at == its}
    return {(wrote, tail[len(tail) - kept:]) for tail, kept in ours for wrote in others}


def counted(plan, state, other, its, limit=6000):
    """What join tells, by all windows, all fills and all paths; a refusal with its number of edges."""
    found = {(its, *window): 0 for window in begun(plan, state, other, its)}
    queue = list(found)
    places, shorts = set(), []
    for node in queue:
        at, tail, kept = node
        for edge in other.out(at):
            for fill in fills(other[edge][2].holes()):
                told = went_on(other[edge][2], fill, other.width, tail, kept)
                if told is None:
                    shorts.append(found[node] + 1)
                    continue
                places |= {(edge, index) for index in told[2]}
                behind = (other[edge][1], told[0], told[1])
                if behind not in found:
                    found[behind] = found[node] + 1
                    queue.append(behind)
        if len(found) > limit:
            return None
    if shorts:
        return ("short", min(shorts))
    return ("wrong", sorted(places)) if places else ("right",)


class ByHand(unittest.TestCase):
    plan = Plan("ab", 3, "s", {
        "in": ("s", "t", Piece("ab", [("any", "ab"), ("text", "ab")])), "on": ("t", "t", Piece("ab", [("copy", 2, 1)])),
        "out": ("t", "u", Piece("ab", [FLUSH, ("text", "ab")])), "end": ("u", "v", Piece("ab", [("copy", 1, 1), ("copy", 3, 1)])),
    })

    def test_one_plan(self):
        self.assertEqual(join(self.plan, "u", self.plan, "u"), ("right",))
        self.assertEqual(join(self.plan, "v", self.plan, "v"), ("right",))
        # Two rows to t may have other fills, and other signs on the ring.
        self.assertEqual(join(self.plan, "t", self.plan, "t"), ("wrong", [("on", 0)]))
        self.assertEqual(join(self.plan, "s", self.plan, "s"), ("right",))

    def test_the_same_edges_in_another_plan(self):
        same = Plan("ab", 3, "s", self.plan.edges())
        for state in "stuv":
            for its in "stuv":
                self.assertEqual(join(self.plan, state, same, its), join(self.plan, state, self.plan, its))

    def test_other_texts(self):
        other = self.plan.changed("out", "t", "u", Piece("ab", [FLUSH, ("text", "aa")]))
        self.assertEqual(join(self.plan, "u", other, "u"), ("wrong", [("end", 0)]))
        self.assertEqual(join(other, "u", self.plan, "u"), ("wrong", [("end", 0)]))
        # Slot 2 is no more unlike, and it is the one that the second copy reads.
        behind = self.plan.changed("out", "t", "u", Piece("ab", [FLUSH, ("text", "bb")]))
        self.assertEqual(join(self.plan, "u", behind, "u"), ("wrong", [("end", 1)]))

    def test_other_flushes(self):
        late = self.plan.changed("out", "t", "u", Piece("ab", [("text", "a"), FLUSH, ("text", "b")]))
        late = late.changed("end", "u", "v", Piece("ab", [("copy", 1, 1), ("copy", 2, 1)]))
        self.assertEqual(join(late, "u", late, "u"), ("right",))
        self.assertEqual(join(late, "u", self.plan, "u"), ("short", ["end"]))
        self.assertEqual(join(self.plan, "u", late, "u"), ("right",))

    def test_other_choices(self):
        one, _ = one_line([("any", "ab"), ("text", "a")], [("copy", 2, 1)])
        other, _ = one_line([("any", "a"), ("text", "a")], [("copy", 2, 1)])
        fixed, _ = one_line([("text", "aa")], [("say", 1, 1), ("copy", 3, 1)])
        self.assertEqual(join(one, "t", one, "t"), ("wrong", [("b", 0)]))
        self.assertEqual(join(one, "t", other, "t"), ("wrong", [("b", 0)]))
        self.assertEqual(join(other, "t", one, "t"), ("wrong", [("b", 0)]))
        self.assertEqual(join(other, "t", other, "t"), ("right",))
        self.assertEqual(join(other, "t", fixed, "t"), ("right",))
        self.assertEqual(join(one, "t", fixed, "t"), ("wrong", [("b", 1)]))

    def test_what_is_said_is_written_rightly(self):
        one, _ = one_line([("text", "ab")], [("say", 1, 1), ("copy", 2, 1)])
        other, _ = one_line([("text", "ba")], [("copy", 1, 1), ("say", 2, 1), ("copy", 2, 1)])
        self.assertEqual(join(other, "t", one, "t"), ("wrong", [("b", 1)]))
        self.assertEqual(join(one, "t", other, "t"), ("wrong", [("b", 0), ("b", 2)]))

    def test_the_fewest_edges(self):
        other = Plan("ab", 3, "q", {
            "in": ("q", "r", Piece("ab", [("text", "aba")])), "a": ("r", "r", A), "b": ("r", "x", A),
            "c": ("x", "x", Piece("ab", [("copy", 3, 1)])), "d": ("r", "y", Piece("ab", [("text", "aa")])),
            "e": ("y", "y", Piece("ab", [("copy", 3, 1)])),
        })
        self.assertEqual(join(self.plan, "s", other, "r"), ("short", ["b", "c"]))
        self.assertEqual(join(self.plan, "s", other, "x"), ("short", ["c"]))
        self.assertEqual(join(self.plan, "u", other, "r"), ("wrong", [("c", 0), ("e", 0)]))
        self.assertEqual(join(self.plan, "v", other, "q"), ("right",))
        self.assertEqual(join(self.plan, "u", other, "x"), ("short", ["c"]))
        self.assertEqual(join(self.plan, "v", other, "x"), ("wrong", [("c", 0)]))

    def test_short_ahead_of_wrong(self):
        other = Plan("ab", 3, "q", {
            "in": ("q", "r", Piece("ab", [("text", "bbb")])), "a": ("r", "x", Piece("ab", [("copy", 1, 1)])),
            "b": ("x", "y", Piece("ab", [("copy", 3, 1)])), "c": ("y", "z", Piece("ab", [("copy", 3, 1), ("copy", 3, 1)])),
        })
        behind, _ = one_line([("text", "a")])
        self.assertEqual(join(behind, "t", other, "r"), ("short", ["a", "b"]))
        more, _ = one_line([("text", "ba")])
        self.assertEqual(join(more, "t", other, "r"), ("wrong", [("a", 0), ("c", 0), ("c", 1)]))

    def test_short_on_some_row_alone(self):
        plan = Plan("ab", 3, "s", {"a": ("s", "t", A), "b": ("s", "t", Piece("ab", [("text", "aba")]))})
        other, _ = one_line([("text", "aba")], [("copy", 2, 1)])
        self.assertEqual(join(plan, "t", other, "t"), ("short", ["b"]))
        self.assertEqual(join(plan.without("a"), "t", other, "t"), ("right",))

    def test_no_edge(self):
        bare = Plan("ab", 3, "q", {"a": ("s", "t", A)})
        self.assertEqual([join(bare, "q", self.plan, "s"), join(self.plan, "t", bare, "q")], [("right",), ("right",)])
        self.assertEqual(join(bare, "q", self.plan, "t"), ("short", ["on"]))


class Errors(unittest.TestCase):
    plan = Plan("ab", 3, "s", {"a": ("s", "t", A), "b": ("t", "t", A), "x": ("x", "y", A)})
    other = Plan("ab", 3, "k", {"l": ("k", "m", A), "q": ("n", "n", Piece("ab", [("copy", 3, 1)]))})
    short, _ = one_line([("text", "a"), ("copy", 3, 4)])
    early, _ = one_line([("copy", 1, 1)])

    def test_unlike_first(self):
        for other in (Plan("abc", 3, "s", {"a": ("s", "t", Piece("abc", [("text", "a")]))}), Plan("ab", 2, "s", {"a": ("s", "t", A)})):
            for state, its in [("z", "z"), ("x", "x"), ("s", "s")]:
                raised(self, Unlike, join, self.plan, state, other, its)
                raised(self, Unlike, join, other, state, self.short, its)
                raised(self, Unlike, join, self.short, state, other, its)

    def test_unsound_of_the_first_one_first(self):
        for plan, other, index in [
            (self.short, self.early, 1), (self.early, self.short, 0), (self.plan, self.short, 1), (self.plan, self.early, 0),
            (self.early, self.other, 0), (self.short, self.plan, 1),
        ]:
            for state, its in [("zz", "zz"), ("x", "zz"), ("s", "n")]:
                error = raised(self, Unsound, join, plan, state, other, its)
                self.assertEqual((error.edge, error.index), ("a", index))

    def test_unknown_then_unreached(self):
        for state, its, kind, name in [
            ("z", "k", Unknown, "z"), ("z", "zz", Unknown, "z"), ("s", "zz", Unknown, "zz"), ("s", "s", Unknown, "s"),
            ("k", "k", Unknown, "k"), ("a", "l", Unknown, "a"), ("s", "l", Unknown, "l"), ("x", "k", Unreached, "x"),
            ("x", "n", Unreached, "x"), ("t", "n", Unreached, "n"), ("y", "n", Unreached, "y"), ("z", "n", Unknown, "z"),
            ("x", "zz", Unknown, "zz"),
        ]:
            self.assertEqual(raised(self, kind, join, self.plan, state, self.other, its).name, name)
        self.assertEqual(join(self.plan, "t", self.other, "m"), ("right",))

    def test_unsound_edges_that_no_row_has(self):
        plan = self.plan.changed("x", "x", "y", Piece("ab", [("copy", 3, 1)]))
        self.assertEqual(join(plan, "t", plan, "t"), ("right",))

    def test_unsound_plans(self):
        chance = random.Random(80)
        for _ in range(60):
            plan, other = made_plan(chance), made_plan(chance)
            first = plan if unsound(plan) else other
            if unsound(first):
                error = raised(self, Unsound, join, plan, "zz", other, "zz")
                self.assertEqual((error.edge, error.index), unsound(first)[0])


class AtRandom(unittest.TestCase):
    def other_plan(self, chance, plan, at, how):
        """The plan itself, one with some edge otherwise, or another one."""
        if at % 3 == 0:
            return plan
        other = made_sound(chance, edges="abc", **how)
        if at % 3 == 1:
            name = chance.choice(list(plan.edges()))
            mixed = plan.changed(name, *plan[name][:2], other[chance.choice(list(other.edges()))][2])
            return other if unsound(mixed) else mixed
        return other

    def test_against_all_windows(self):
        chance = random.Random(81)
        seen = {"short": 0, "wrong": 0, "right": 0}
        for at in range(150):
            how = [{"width": 2, "filled": True}, {"width": 3, "most": 2}, {"width": 3, "filled": True, "most": 2}][at // 3 % 3]
            plan = made_sound(chance, edges="abc", **how)
            other = self.other_plan(chance, plan, at, how)
            if worlds(plan, 150) is None or worlds(other, 150) is None:
                continue
            for state in plan.reached():
                self.check(plan, state, other, chance.choice(other.reached()), seen)
        self.assertGreater(min(seen.values()), 20, seen)

    def check(self, plan, state, other, its, seen):
        before = plan.edges(), other.edges()
        told = join(plan, state, other, its)
        right = counted(plan, state, other, its)
        if right is None:
            return
        seen[right[0]] += 1
        if right[0] == "short":
            self.assertEqual((told[0], len(told[1])), right)
            self.check_short(plan, state, other, its, told[1])
        else:
            self.assertEqual(told, right)
        self.assertIs(type(told), tuple)
        self.assertEqual(join(turned(plan), state, turned(other), its), told)
        self.assertEqual(check_new(self, lambda: join(plan, state, other, its)), told)
        self.assertEqual((plan.edges(), other.edges()), before)

    def check_short(self, plan, state, other, its, path):
        """A reader that has read some row of the plan is refused in the last edge of the path."""
        rows = [world for (at, _, _), world in worlds(other).items() if at == its]
        refused = 0
        for (at, _, _), (row, fill) in worlds(plan).items():
            if at == state:
                reader = Reader(plan.signs, plan.width)
                for block in stream(plan, row, fill):
                    reader.read_all(block)
                whole = rows[0][0] + path
                blocks = stream(other, whole, [choice[0] for choice in holes(other, whole)])[len(rows[0][0]):]
                for block in blocks[:-1]:
                    reader.read_all(block)
                try:
                    reader.read_all(blocks[-1])
                except Short:
                    refused += 1
        self.assertGreater(refused, 0)

    def test_sixteen_edges(self):
        for one, other in [("any", "any"), ("fixed", "any"), ("copies", "fixed")]:
            told = join(sixteen(one), "b", sixteen(other), "c")
            self.assertIn(told[0], ("wrong", "right"))
        self.assertEqual(join(sixteen("any"), "s", sixteen("any"), "a")[0], "short")

    def test_one_text(self):
        plan = loops(3, a=[("text", "aba"), ("copy", 2, 2)])
        self.assertEqual(join(plan, "s", plan, "s"), ("right",))


if __name__ == "__main__":
    unittest.main()
