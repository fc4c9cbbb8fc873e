import itertools
import random
import unittest

from oddities import ODD, but
from test_pieces import random_piece
from windowcuts.errors import NoFill, NoRow, Short
from windowcuts.pieces import Piece
from windowcuts.plans import Plan
from windowcuts.rows import holes, is_row, rows_upto, state_behind, stream, texts
from windowcuts.streams import block_texts

FLUSH = ("flush",)
A = Piece("ab", [("text", "a")])
LEGS = Plan("ab", 3, "s", {"a": ("s", "t", A), "b": ("t", "s", A), "c": ("t", "t", A), "x": ("u", "s", A)})


def line(*pieces, width=3):
    """A plan with one row of these pieces, and this row."""
    states = "stuvwxyz"
    edges = {name: (states[at], states[at + 1], Piece("ab", piece)) for at, (name, piece) in enumerate(zip("abcdefg", pieces))}
    return Plan("ab", width, "s", edges), list(edges)


def raised(test, kind, call, *arguments):
    with test.assertRaises(kind) as caught:
        call(*arguments)
    return caught.exception


def random_plan(chance):
    states = "stu"
    edges = {name: (chance.choice(states), chance.choice(states), random_piece(chance)) for name in "abcde"}
    return Plan("ab", 5, "s", edges)


def told_plainly(plan, names, fill):
    """The texts and blocks of a row, or the error of its first refused token."""
    text, since, parts, blocks, left = "", 0, [], [], list(fill)
    for name in names:
        begin, block = len(text), []
        for token in plan[name][2].tokens():
            at, kind = len(text), token[0]
            if kind == "flush":
                since = at
            elif kind == "text":
                text += token[1]
            elif kind == "any":
                text += left.pop(0)
            else:
                ahead = min(plan.width, at - since) if kind == "copy" else at
                if token[1] > ahead:
                    return (token[1], ahead)
                for _ in range(token[2]):
                    text += text[-token[1]]
            block.append(token if kind in ("text", "copy", "flush") else ("text", text[at:]))
        parts.append(text[begin:])
        blocks.append(block)
    return [parts, blocks]


class Rows(unittest.TestCase):
    def test_is_row(self):
        for names in [[], ["a"], ["a", "b"], ["a", "b", "a"], ["a", "c", "c", "b", "a"], ["a"] + ["c"] * 199]:
            self.assertIs(is_row(LEGS, names), True)
        for thing in [
            ["b"], ["c"], ["x"], ["x", "a"], ["a", "a"], ["a", "x"], ["a", "d"], ["a", None], ["a", ["c"]], ("a",), (), "a",
            "", ["a", ""], ["ab"], {"a": 1}, {}, None, [["a"]], [True], ["a", 0], [[]],
        ]:
            self.assertIs(is_row(LEGS, thing), False, thing)
        for thing in ODD:
            self.assertIs(is_row(LEGS, thing), type(thing) is list and thing in ([], ["a"]))

    def test_state_behind(self):
        for names, state in [([], "s"), (["a"], "t"), (["a", "c"], "t"), (["a", "b"], "s"), (["a", "c", "b", "a"], "t")]:
            self.assertEqual(state_behind(LEGS, names), state)

    def test_no_row(self):
        for call in (state_behind, holes, lambda p, n: texts(p, n, [None]), lambda p, n: stream(p, n, [None])):
            for names, at in [
                (["b"], 0), (["x"], 0), (["a", "a"], 1), (["a", "b", "c", "b"], 2), (["a", "zz"], 1), (["a", "c", "c", 7], 3),
            ]:
                self.assertEqual(raised(self, NoRow, call, LEGS, names).at, at)
            for thing in but("a"):
                self.assertEqual(raised(self, NoRow, call, LEGS, [thing]).at, 0)
                self.assertEqual(raised(self, NoRow, call, LEGS, ["a", thing, thing]).at, 1)

    def test_holes(self):
        plan, row = line([("any", "ab"), ("text", "a"), ("any", "b")], [("copy", 1, 1)], [("any", "a")])
        self.assertEqual(holes(plan, row), ["ab", "b", "a"])
        self.assertEqual([holes(plan, row[:many]) for many in range(3)], [[], ["ab", "b"], ["ab", "b"]])

    def test_no_fill(self):
        plan, row = line([("any", "ab"), ("any", "b")], [("copy", 3, 1)], [("any", "a")])
        for call in (texts, stream):
            for fill, at in [
                ([], 0), (["a"], 1), (["a", "b"], 2), (["a", "b", "a", "a"], 3), (["a", "b", "a", None, None], 3),
                (["c", "b", "a"], 0), (["b", "a", "a"], 1), (["b", "b", "b"], 2), (["ab", "b", "a"], 0), (["", "b", "a"], 0),
                ([["a"], "b", "a"], 0), (["a", ("b",), "a"], 1), ([None], 0), ([b"a", "b", "a"], 0), (["?", "b", "a"], 0),
            ]:
                self.assertEqual(raised(self, NoFill, call, plan, row, fill).at, at)
            for thing in ODD:
                self.assertEqual(raised(self, NoFill, call, LEGS, ["a"], [thing]).at, 0)
                self.assertEqual(raised(self, NoFill, call, LEGS, [], [thing]).at, 0)
                if type(thing) is not str or thing != "a":
                    self.assertEqual(raised(self, NoFill, call, plan, row, ["a", "b", thing]).at, 2)

    def test_no_row_then_no_fill_then_short(self):
        plan, row = line([("copy", 1, 1), ("any", "ab")], [("copy", 3, 1)])
        for call in (texts, stream):
            self.assertEqual(raised(self, NoRow, call, plan, ["a", "a"], []).at, 1)
            self.assertEqual(raised(self, NoFill, call, plan, row, []).at, 0)
            error = raised(self, Short, call, plan, row, ["a"])
            self.assertEqual((error.distance, error.ahead), (1, 0))

    def short(self, distance, ahead, *pieces, width=3):
        plan, row = line(*pieces, width=width)
        for call in (texts, stream):
            error = raised(self, Short, call, plan, row, [])
            self.assertEqual((error.distance, error.ahead), (distance, ahead))

    def test_short(self):
        self.short(2, 1, [("text", "a")], [("copy", 2, 5)])
        self.short(2, 1, [("text", "a"), FLUSH, ("text", "b"), ("copy", 2, 1)])
        self.short(1, 0, [("text", "ab"), FLUSH], [("copy", 1, 1)])
        self.short(3, 2, [("text", "ab"), FLUSH, ("text", "b")], [("copy", 1, 1), ("copy", 3, 1)])
        self.short(3, 2, [("text", "ab"), ("say", 3, 1)], [("copy", 1, 1)])
        self.short(3, 2, [FLUSH, ("text", "ab"), FLUSH], [FLUSH, ("say", 3, 1)])
        self.short(3, 1, [("text", "a"), ("say", 3, 1), ("copy", 2, 1)])
        self.short(12, 11, [("text", "abbabaababb"), ("copy", 12, 1)], width=12)

    def test_over_borders_of_pieces(self):
        plan, row = line([("text", "ab")], [("copy", 2, 1)], [("copy", 3, 4)], [("copy", 1, 1), ("any", "b")])
        self.assertEqual(texts(plan, row, ["b"]), ["ab", "a", "abaa", "ab"])

    def test_says_over_flushes_and_copies_behind(self):
        plan, row = line([("text", "ab"), FLUSH], [("say", 2, 3), ("copy", 3, 2)], [FLUSH, ("say", 1, 1), ("copy", 1, 1)])
        self.assertEqual(texts(plan, row, []), ["ab", "abaab", "bb"])
        self.assertEqual(stream(plan, row, []), [
            [("text", "ab"), FLUSH], [("text", "aba"), ("copy", 3, 2)], [FLUSH, ("text", "b"), ("copy", 1, 1)],
        ])

    def test_nothing_is_merged(self):
        tokens = [FLUSH, FLUSH, ("text", "a"), ("text", "b"), ("any", "ab"), ("say", 1, 1), ("copy", 1, 1), ("copy", 1, 1)]
        plan, row = line(tokens, [("say", 2, 2), ("say", 2, 2), FLUSH])
        self.assertEqual(stream(plan, row, ["b"]), [
            [FLUSH, FLUSH, ("text", "a"), ("text", "b"), ("text", "b"), ("text", "b"), ("copy", 1, 1), ("copy", 1, 1)],
            [("text", "bb"), ("text", "bb"), FLUSH],
        ])

    def test_no_edges(self):
        self.assertEqual([texts(LEGS, [], []), stream(LEGS, [], []), holes(LEGS, [])], [[], [], []])

    def test_every_row_and_fill(self):
        chance = random.Random(21)
        seen = {"short": 0, "told": 0}
        for _ in range(60):
            plan = random_plan(chance)
            for names in rows_upto(plan, 3):
                choices = holes(plan, names)
                self.assertEqual(choices, [choice for name in names for choice in plan[name][2].holes()])
                for fill in itertools.islice(itertools.product(*choices), 4):
                    self.check_row(plan, names, list(fill), seen)
        self.assertTrue(min(seen.values()) > 100, seen)

    def check_row(self, plan, names, fill, seen):
        told = told_plainly(plan, names, fill)
        before = list(names), list(fill)
        if type(told) is tuple:
            seen["short"] += 1
            for call in (texts, stream):
                error = raised(self, Short, call, plan, names, fill)
                self.assertEqual((error.distance, error.ahead), told)
        else:
            seen["told"] += 1
            self.assertEqual([texts(plan, names, fill), stream(plan, names, fill)], told)
            self.assertEqual(block_texts(plan.signs, plan.width, told[1]), told[0])
        self.assertEqual((names, fill), before)

    def test_long_rows(self):
        plan = Plan("ab", 3, "s", {"a": ("s", "s", Piece("ab", [("any", "ab"), ("say", 1, 1), ("copy", 1, 1)]))})
        many = 20000
        fill = ["ab"[n % 2] for n in range(many)]
        self.assertEqual(texts(plan, ["a"] * many, fill), [sign * 3 for sign in fill])
        self.assertEqual(stream(plan, ["a"] * many, fill)[-1], [("text", "b"), ("text", "b"), ("copy", 1, 1)])

    def test_returned_lists_are_new(self):
        plan, row = line([("any", "ab")], [FLUSH, ("say", 1, 1)])
        for _ in range(2):
            got = stream(plan, row, ["a"])
            self.assertEqual(got, [[("text", "a")], [FLUSH, ("text", "a")]])
            got[0].append(None)
            got.append(None)
            for call in (holes(plan, row), texts(plan, row, ["a"])):
                self.assertEqual(type(call), list)
                call.append(None)


class Upto(unittest.TestCase):
    def plainly(self, plan, most):
        found = []
        for many in range(most + 1):
            tuples = itertools.product(sorted(plan.edges()), repeat=many)
            found += [list(names) for names in tuples if is_row(plan, list(names))]
        return found

    def test_by_hand(self):
        self.assertEqual(list(rows_upto(LEGS, 0)), [[]])
        self.assertEqual(list(rows_upto(LEGS, 3)), [
            [], ["a"], ["a", "b"], ["a", "c"], ["a", "b", "a"], ["a", "c", "b"], ["a", "c", "c"],
        ])

    def test_order(self):
        chance = random.Random(22)
        for _ in range(60):
            plan = random_plan(chance)
            for most in range(5):
                self.assertEqual(list(rows_upto(plan, most)), self.plainly(plan, most))

    def test_dead_ends(self):
        plan, row = line(*[[("text", "a")]] * 5)
        self.assertEqual(list(rows_upto(plan, 12)), [row[:many] for many in range(6)])
        none = Plan("ab", 3, "q", {"a": ("s", "t", A)})
        self.assertEqual([list(rows_upto(none, most)) for most in (0, 1, 12)], [[[]]] * 3)

    def test_twelve_edges(self):
        two = Plan("ab", 3, "s", {"a": ("s", "s", A), "b": ("s", "s", A)})
        rows = list(rows_upto(two, 12))
        self.assertEqual(len(rows), 2 ** 13 - 1)
        self.assertEqual(rows, sorted(rows, key=lambda row: (len(row), row)))
        self.assertEqual((rows[-1], len(set(map(tuple, rows)))), (["b"] * 12, len(rows)))

    def test_left_early(self):
        plan = Plan("ab", 3, "s", {name: ("s", "s", A) for name in "abcdefghijklmnop"})
        found = list(itertools.islice(rows_upto(plan, 12), 5000))
        self.assertEqual(found[:18], [[]] + [[name] for name in "abcdefghijklmnop"] + [["a", "a"]])
        self.assertEqual((len(found[-1]), found), (4, sorted(found, key=lambda row: (len(row), row))))
        rows = rows_upto(plan, 12)
        self.assertEqual(next(rows), [])
        rows.close()

    def test_rows_belong_to_the_caller(self):
        found = []
        for names in rows_upto(LEGS, 4):
            found.append(list(names))
            names.append("x")
            names.insert(0, "y")
        self.assertEqual(found, self.plainly(LEGS, 4))


if __name__ == "__main__":
    unittest.main()
