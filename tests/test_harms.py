import random
import unittest

from making import fills, loops, made_plan, made_sound, one_line, raised, went_on, worlds
from oddities import ODD
from test_pieces import FLUSH
from windowcuts.counts import unsound
from windowcuts.errors import NoRow, Short, Unknown, Unreached, Unsound
from windowcuts.harms import harm, harm_shown
from windowcuts.pieces import Piece
from windowcuts.plans import Plan
from windowcuts.reading import Reader
from windowcuts.rows import holes, is_row, rows_upto, state_behind, stream, texts

A = Piece("ab", [("text", "a")])


def counted(plan, state, names, order, limit=6000):
    """What harm tells, by all windows, all fills and all paths; a refusal with its number of edges."""
    found = {}
    for (at, _, _), (row, fill) in worlds(plan).items():
        if at != state:
            continue
        choices = [choice for name in names for choice in plan[name][2].holes()]
        for more in fills(choices):
            told = read_in_order(plan, row, names, order, fill + more)
            if told is None:
                return ("short", 0)
            found[(plan[names[-1]][1], *told)] = 0
    queue = list(found)
    places, shorts = set(), []
    for node in queue:
        at, tail, kept = node
        for edge in plan.out(at):
            for fill in fills(plan[edge][2].holes()):
                told = went_on(plan[edge][2], fill, plan.width, tail, kept)
                if told is None:
                    shorts.append(found[node] + 1)
                    continue
                places |= {(edge, index) for index in told[2]}
                behind = (plan[edge][1], told[0], told[1])
                if behind not in found:
                    found[behind] = found[node] + 1
                    queue.append(behind)
        if len(found) > limit:
            return None
    if shorts:
        return ("short", min(shorts))
    return ("wrong", sorted(places)) if places else ("right",)


def read_in_order(plan, row, names, order, fill):
    """The writer's window, and what the reader keeps, behind the pieces in this order, or None."""
    blocks = stream(plan, row + names, fill)
    reader = Reader(plan.signs, plan.width)
    for block in blocks[:len(row)]:
        reader.read_all(block)
    try:
        for index in order:
            reader.read_all(blocks[len(row) + index])
    except Short:
        return None
    return "".join(texts(plan, row + names, fill))[-plan.width:], reader.kept()


class ByHand(unittest.TestCase):
    edges = {
        "in": ("s", "t", Piece("ab", [("any", "ab"), ("any", "ab"), ("text", "a")])), "on": ("t", "t", Piece("ab", [("copy", 3, 1)])),
        "b": ("t", "u", Piece("ab", [("text", "b")])), "c": ("u", "v", Piece("ab", [("copy", 1, 1), ("copy", 3, 1)])),
    }
    plan = Plan("ab", 3, "s", edges)

    def test_the_right_order(self):
        for state, names in [("s", ["in"]), ("t", ["b", "c"]), ("t", ["on", "b"]), ("s", ["in", "on", "on", "on", "b", "c"])]:
            self.assertEqual(harm(self.plan, state, names, list(range(len(names)))), ("right",))

    def test_exchanged(self):
        self.assertEqual(harm(self.plan, "t", ["on", "b"], [1, 0]), ("wrong", [("c", 0), ("c", 1)]))
        self.assertEqual(harm(self.plan, "t", ["on", "on"], [1, 0]), ("right",))

    def test_twice_and_left_out(self):
        self.assertEqual(harm(self.plan, "t", ["b"], [0, 0]), ("wrong", [("c", 1)]))
        self.assertEqual(harm(self.plan, "t", ["on"], [0] * 4), ("right",))
        self.assertEqual(harm(self.plan, "t", ["on"], [0] * 2), ("wrong", [("c", 1), ("on", 0)]))
        self.assertEqual(harm(self.plan, "t", ["b"], []), ("wrong", [("c", 0), ("c", 1)]))
        self.assertEqual(harm(self.plan, "t", ["b", "c"], []), ("right",))

    def test_short_in_the_order(self):
        self.assertEqual(harm(self.plan, "s", ["in", "on"], [1, 0]), ("short", []))
        self.assertEqual(harm(self.plan, "s", ["in", "on", "b"], [2, 1, 0]), ("short", []))

    def test_short_on_a_path(self):
        self.assertEqual(harm(self.plan, "s", ["in"], []), ("short", ["on"]))
        self.assertIn(harm(self.plan, "s", ["in", "b"], [1]), [("short", ["c"])])
        self.assertEqual(harm(self.plan, "s", ["in", "b", "c"], []), ("right",))
        flushing, row = one_line([("text", "ab")], [("text", "b"), FLUSH], [("text", "a")], [("copy", 1, 1), ("text", "b"), ("copy", 3, 1)])
        self.assertEqual(harm(flushing, "t", ["b", "c"], [1, 0]), ("short", ["d"]))
        self.assertEqual(harm(flushing, "t", ["b", "c"], [0, 1]), ("right",))
        self.assertEqual(harm(flushing, "t", ["b"], []), ("right",))

    def test_short_ahead_of_wrong(self):
        plan = Plan("ab", 3, "s", {
            "p": ("s", "t", Piece("ab", [("text", "ab")])), "q": ("t", "u", Piece("ab", [("text", "b")])),
            "x": ("u", "v", Piece("ab", [("copy", 2, 1)])), "z": ("u", "v", Piece("ab", [("copy", 3, 1)])),
        })
        self.assertEqual(harm(plan, "s", ["p", "q"], [0]), ("short", ["z"]))
        self.assertEqual(harm(plan.without("z"), "s", ["p", "q"], [0]), ("wrong", [("x", 0)]))

    def test_flushes_of_exchanged_pieces(self):
        plan = self.plan.changed("b", "t", "u", Piece("ab", [FLUSH, ("text", "bab")]))
        self.assertEqual(harm(plan, "t", ["on", "b"], [1, 0]), ("wrong", [("c", 1)]))
        longer = plan.changed("d", "v", "v", Piece("ab", [("copy", 3, 1)]))
        self.assertEqual(harm(longer, "t", ["on", "b"], [1, 0]), ("wrong", [("c", 1), ("d", 0)]))

    def test_short_on_some_row_alone(self):
        edges = {
            "a": ("s", "t", Piece("ab", [("text", "aba")])), "b": ("s", "t", A), "c": ("t", "u", Piece("ab", [("text", "ab")])),
            "d": ("u", "u", Piece("ab", [("copy", 3, 1)])),
        }
        plan = Plan("ab", 3, "s", edges)
        self.assertEqual(harm(plan, "t", ["c"], []), ("short", ["d"]))
        self.assertEqual(harm(plan.without("b"), "t", ["c"], [])[0], "wrong")

    def test_blocks_carry_says_as_texts(self):
        plan, row = one_line([("any", "ab"), ("text", "b")], [("text", "a")], [("say", 1, 2)], [("copy", 1, 1)], width=2)
        self.assertEqual(harm(plan, "t", ["b", "c"], [1, 0]), ("right",))
        self.assertEqual(harm(plan, "t", ["b", "c"], [1]), ("right",))
        copied, row = one_line([("any", "ab"), ("text", "b")], [("text", "a")], [("copy", 1, 2)], [("copy", 1, 1)], width=2)
        self.assertEqual(harm(copied, "t", ["b", "c"], [1]), ("wrong", [("d", 0)]))

    def test_holes_that_come_twice_have_one_fill(self):
        plan, row = one_line([("text", "ab")], [("any", "ab")], [("copy", 1, 1), ("copy", 2, 1)], width=2)
        self.assertEqual(harm(plan, "t", ["b"], [0, 0]), ("right",))
        plan, row = one_line([("text", "ab")], [("any", "ab")], [("copy", 2, 1), ("copy", 2, 1)], width=2)
        self.assertEqual(harm(plan, "t", ["b"], [0, 0]), ("wrong", [("c", 0)]))
        ring = Plan("ab", 2, "s", {"a": ("s", "t", Piece("ab", [("text", "ab")])), "b": ("t", "t", Piece("ab", [("any", "ab")]))})
        ring = ring.changed("c", "t", "u", Piece("ab", [("copy", 1, 1)]))
        self.assertEqual(harm(ring, "t", ["b", "b"], [0, 1, 1]), ("right",))
        self.assertEqual(harm(ring, "t", ["b", "b"], [1, 0]), ("wrong", [("c", 0)]))
        single = ring.changed("b", "t", "t", Piece("ab", [("any", "b")]))
        self.assertEqual(harm(single, "t", ["b", "b"], [1, 0]), ("right",))

    def test_the_window_must_be_right_in_read_slots_alone(self):
        plan, row = one_line([("text", "ab")], [("any", "ab"), ("text", "a")], [("copy", 1, 2), ("text", "b")], [("copy", 3, 3)])
        self.assertEqual(harm(plan, "t", ["b"], []), ("wrong", [("c", 0), ("c", 1), ("d", 0), ("d", 1)]))
        same, row = one_line([("text", "ba")], [("any", "ab"), ("text", "a")], [("copy", 1, 2), ("text", "b")], [("copy", 3, 3)])
        self.assertEqual(harm(same, "t", ["b"], []), ("right",))


class Errors(unittest.TestCase):
    plan = Plan("ab", 3, "s", {"a": ("s", "t", A), "b": ("t", "t", A), "x": ("x", "y", A)})

    def both(self, kind, *arguments):
        error = raised(self, kind, harm, *arguments)
        for place in [None, ("a", 0)]:
            self.assertEqual(vars(raised(self, kind, harm_shown, *arguments, place)), vars(error))
        return error

    def test_unsound_first(self):
        plan, _ = one_line([("text", "a"), ("copy", 3, 4)])
        error = self.both(Unsound, plan, "z", ["z"], [0])
        self.assertEqual((error.edge, error.index), ("a", 1))
        chance = random.Random(73)
        for _ in range(60):
            plan = made_plan(chance)
            if unsound(plan):
                error = self.both(Unsound, plan, "z", ["zz"], [])
                self.assertEqual((error.edge, error.index), unsound(plan)[0])

    def test_unknown_then_unreached_then_no_row(self):
        for name in ("z", "a"):
            self.assertEqual(self.both(Unknown, self.plan, name, ["zz"], [0]).name, name)
        for name in "xy":
            self.assertEqual(self.both(Unreached, self.plan, name, ["x"], [0]).name, name)
        for state, names, at in [
            ("s", ["b"], 0), ("t", ["a"], 0), ("s", ["a", "a"], 1), ("s", ["a", "b", "b", "x"], 3), ("t", ["b", "zz", "b"], 1),
            ("t", ["x"], 0), ("s", ["zz"], 0),
        ]:
            self.assertEqual(self.both(NoRow, self.plan, state, names, []).at, at)

    def test_no_edge(self):
        plan = Plan("ab", 3, "q", {"a": ("s", "t", A)})
        self.assertEqual(self.both(NoRow, plan, "q", ["a"], [0]).at, 0)


class Shown(unittest.TestCase):
    plan = ByHand.plan

    def test_by_hand(self):
        for place in [("c", 0), ("c", 1)]:
            row, fill, path = harm_shown(self.plan, "t", ["on", "b"], [1, 0], place)
            check_shown(self, self.plan, "t", ["on", "b"], [1, 0], place, (row, fill, path))
            self.assertEqual(path, ["c"])

    def test_other_places_and_values(self):
        told = harm(self.plan, "t", ["on"], [0, 0])
        self.assertEqual(told, ("wrong", [("c", 1), ("on", 0)]))
        others = [("c", 0), ("c", 2), ("c", -1), ("b", 0), ("in", 0), ("zz", 0), ("s", 0), ["c", 1], ("c", True), ("on", False)]
        others += [("c",), ("c", 1, 1), (), ("c", "1"), (None, 1), ([], 1), ("c", []), ("on", None), (("c", 1),), "c1", [("c", 1)]]
        for thing in ODD + others + [("c", thing) for thing in ODD if type(thing) is not int] + [(thing, 1) for thing in ODD]:
            self.assertIs(harm_shown(self.plan, "t", ["on"], [0, 0], thing), None)
        self.assertIsNot(harm_shown(self.plan, "t", ["on"], [0, 0], ("c", 1)), None)

    def test_short_and_right(self):
        for place in [("on", 0), ("c", 0), ("c", 1)]:
            self.assertIs(harm_shown(self.plan, "s", ["in"], [], place), None)
            self.assertIs(harm_shown(self.plan, "s", ["in", "on"], [1, 0], place), None)
            self.assertIs(harm_shown(self.plan, "t", ["on"], [0], place), None)

    def test_returned_lists_are_new(self):
        for _ in range(2):
            told = harm(self.plan, "t", ["on"], [0, 0])
            self.assertEqual(told[1], [("c", 1), ("on", 0)])
            told[1].clear()
            short = harm(self.plan, "s", ["in"], [])
            self.assertEqual(short, ("short", ["on"]))
            short[1].append(None)
            for one in harm_shown(self.plan, "t", ["on"], [0, 0], ("c", 1)):
                self.assertIs(type(one), list)
                self.assertNotIn(None, one)
                one.append(None)


def check_shown(test, plan, state, names, order, place, told):
    """Written and read with the package's own streams, the place has another sign."""
    row, fill, path = told
    test.assertTrue(is_row(plan, row + names + path))
    test.assertEqual((state_behind(plan, row), path[-1]), (state, place[0]))
    whole = row + names + path
    test.assertEqual(len(fill), len(holes(plan, whole)))
    blocks = stream(plan, whole, fill)
    reader = Reader(plan.signs, plan.width)
    for block in blocks[:len(row)] + [blocks[len(row) + index] for index in order] + blocks[len(row + names):-1]:
        reader.read_all(block)
    read, written = reader.read_all(blocks[-1]), texts(plan, whole, fill)[-1]
    test.assertNotEqual(read[place[1]], written[place[1]])


class AtRandom(unittest.TestCase):
    def paths(self, chance, plan, state):
        """Some paths from a state."""
        for _ in range(2):
            names, at = [], state
            for _ in range(chance.randint(1, 3)):
                if plan.out(at):
                    names.append(chance.choice(plan.out(at)))
                    at = plan[names[-1]][1]
            if names:
                yield names

    def test_against_all_readers(self):
        chance = random.Random(74)
        seen = {"short": 0, "wrong": 0, "right": 0, "within": 0}
        for at in range(120):
            how = [{"width": 2, "filled": True}, {"width": 3, "most": 2}, {"width": 3, "filled": True, "most": 2}][at % 3]
            plan = made_sound(chance, edges="abc", **how)
            if worlds(plan, 150) is None:
                continue
            for state in plan.reached():
                for names in self.paths(chance, plan, state):
                    order = chance.choice([list(range(len(names))), []] + [[chance.randrange(len(names)) for _ in range(chance.randint(1, 4))]] * 4)
                    self.check(plan, state, names, order, seen)
        self.assertGreater(min(seen.values()), 10, seen)

    def check(self, plan, state, names, order, seen):
        before = plan.edges(), list(names), list(order)
        told = harm(plan, state, names, order)
        right = counted(plan, state, names, order)
        if right is None:
            return
        seen["within" if right == ("short", 0) else right[0]] += 1
        if right[0] == "short":
            self.assertEqual((told[0], len(told[1])), right)
            self.check_short(plan, state, names, order, told[1])
        else:
            self.assertEqual(told, right)
        for edge in plan.edges():
            for index in range(len(plan[edge][2])):
                shown = harm_shown(plan, state, names, order, (edge, index))
                if right[0] == "wrong" and (edge, index) in right[1]:
                    check_shown(self, plan, state, names, order, (edge, index), shown)
                else:
                    self.assertIs(shown, None)
        self.assertEqual((plan.edges(), names, order), before)

    def check_short(self, plan, state, names, order, path):
        """On some row, the reader is refused in the last edge of the path, or in the order."""
        refused = 0
        for (at, _, _), (row, fill) in worlds(plan).items():
            if at == state:
                whole = row + names + path
                blocks = stream(plan, whole, fill + [choice[0] for choice in holes(plan, whole)[len(fill):]])
                refused += self.is_refused(plan, len(row), len(row + names), blocks, order)
        self.assertGreater(refused, 0)

    def is_refused(self, plan, begin, end, blocks, order):
        reader = Reader(plan.signs, plan.width)
        for block in blocks[:begin]:
            reader.read_all(block)
        ahead = [blocks[begin + index] for index in order] + blocks[end:]
        try:
            for block in ahead[:-1] if len(blocks) > end else []:
                reader.read_all(block)
        except Short:
            # In the order it may be refused anywhere; on a path in its last edge alone.
            self.assertEqual(len(blocks), end)
            return True
        try:
            for block in ahead[-1:] if len(blocks) > end else ahead:
                reader.read_all(block)
        except Short:
            return True
        return False

    def test_what_is_right_is_read_rightly(self):
        chance = random.Random(75)
        seen = 0
        for _ in range(60):
            plan = made_sound(chance, width=4, filled=True)
            for state in plan.reached():
                for names in self.paths(chance, plan, state):
                    order = [chance.randrange(len(names)) for _ in range(chance.randint(0, 4))]
                    if harm(plan, state, names, order) == ("right",):
                        seen += self.check_right(chance, plan, state, names, order)
        self.assertGreater(seen, 100)

    def check_right(self, chance, plan, state, names, order):
        rows = [row for row in rows_upto(plan, 3) if state_behind(plan, row) == state]
        for row in rows[:6]:
            path, at = [], plan[names[-1]][1]
            for _ in range(4):
                if plan.out(at):
                    path.append(chance.choice(plan.out(at)))
                    at = plan[path[-1]][1]
            whole = row + names + path
            fill = [chance.choice(choice) for choice in holes(plan, whole)]
            blocks = stream(plan, whole, fill)
            reader = Reader(plan.signs, plan.width)
            for block in blocks[:len(row)] + [blocks[len(row) + index] for index in order]:
                reader.read_all(block)
            read = [reader.read_all(block) for block in blocks[len(row + names):]]
            self.assertEqual(read, texts(plan, whole, fill)[len(row + names):])
        return len(rows[:6])

    def test_order_of_edges_and_questions(self):
        chance = random.Random(76)
        for _ in range(40):
            plan = made_sound(chance, filled=True)
            edges = plan.edges()
            other = Plan(plan.signs, plan.width, plan.start, {name: edges[name] for name in list(edges)[::-1]})
            for state in plan.reached():
                for names in self.paths(chance, plan, state):
                    order = [chance.randrange(len(names)) for _ in range(chance.randint(0, 3))]
                    told = harm(plan, state, names, order)
                    self.assertEqual(harm(other, state, names, order), told)
                    for place in told[1] if told[0] == "wrong" else []:
                        shown = harm_shown(plan, state, names, order, place)
                        self.assertEqual(harm_shown(other, state, names, order, place), shown)

    def test_a_large_plan(self):
        edges = {"in": ("s", "t", Piece("abcdef", [("any", "abcdef")] * 12))}
        for at, name in enumerate("abcdefghijklmno"):
            edges[name] = ("t", "t", Piece("abcdef", [("copy", 12 - at % 3, 12), ("any", "ab"), ("copy", 11, 20)]))
        plan = Plan("abcdef", 12, "s", edges)
        names = list("abcdef")
        told = harm(plan, "t", names, [7 % 6, 0, 3, 3, 2, 5, 4, 1])
        self.assertEqual(told[0], "wrong")
        check_shown(self, plan, "t", names, [1, 0, 3, 3, 2, 5, 4, 1], told[1][-1], harm_shown(plan, "t", names, [1, 0, 3, 3, 2, 5, 4, 1], told[1][-1]))

    def test_loops(self):
        plan = loops(3, a=[("any", "ab"), ("say", 1, 1)], b=[FLUSH, ("text", "ab"), ("copy", 2, 1)])
        self.assertEqual(harm(plan, "s", ["a", "b", "a"], [2, 1, 0]), ("right",))


if __name__ == "__main__":
    unittest.main()
