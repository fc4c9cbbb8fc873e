import random
import unittest

from making import along, loops, made_plan, made_sound, one_line, raised
from oddities import ODD, but
from test_pieces import FLUSH
from windowcuts.counts import is_kept_paper, least_kept, least_written, refused_row, unsound
from windowcuts.errors import NoPlace, Short, Unknown
from windowcuts.pieces import Piece
from windowcuts.plans import Plan
from windowcuts.reading import Reader
from windowcuts.rows import holes, rows_upto, state_behind, stream, texts

A = Piece("ab", [("text", "a")])


def numbers_behind(plan):
    """All tuples (state, kept, written) behind rows with the numbers of their edges, written at most the width."""
    first = (plan.start, 0, 0)
    found = {first: 0}
    queue = [first]
    for node in queue:
        for edge in plan.out(node[0]):
            kept, written = along(plan, edge, node)[-1]
            behind = (plan[edge][1], kept, written)
            if behind not in found:
                found[behind] = found[node] + 1
                queue.append(behind)
    return found


def refusals(plan):
    """For each place that some row refuses, the fewest edges of a row that ends there and does."""
    least = {}
    for node, edges in numbers_behind(plan).items():
        for edge in plan.out(node[0]):
            ahead = along(plan, edge, node)
            for index, (kind, told) in enumerate(plan[edge][2].places()):
                kept, written = ahead[index]
                if (kind == "copy" and told > kept) or (kind == "say" and told > written):
                    least[edge, index] = min(edges + 1, least.get((edge, index), edges + 1))
    return least


class Least(unittest.TestCase):
    def test_flushes_in_pieces(self):
        for tokens, kept, written in [
            ([("text", "ab")], 2, 2), ([("text", "ab"), FLUSH], 0, 2), ([FLUSH, ("text", "ab")], 2, 2),
            ([("text", "a"), FLUSH, ("any", "ab"), FLUSH, ("copy", 1, 1)], 1, 3), ([("text", "a" * 40)], 5, 5),
            ([("text", "a" * 20), FLUSH, ("text", "ab")], 2, 5),
        ]:
            plan, row = one_line(tokens, width=5)
            self.assertEqual([least_kept(plan), least_written(plan)], [{"s": 0, "t": kept}, {"s": 0, "t": written}])

    def test_several_rows_to_one_state(self):
        edges = {
            "long": ("s", "t", Piece("ab", [("text", "abba")])), "short": ("s", "t", Piece("ab", [("text", "ab")])),
            "cut": ("s", "u", Piece("ab", [("text", "abb"), FLUSH, ("text", "a")])), "back": ("u", "t", A),
        }
        plan = Plan("ab", 6, "s", edges)
        self.assertEqual([least_kept(plan), least_written(plan)], [{"s": 0, "t": 2, "u": 1}, {"s": 0, "t": 2, "u": 4}])
        plan = plan.changed("short", "s", "t", Piece("ab", [("text", "aaa")]))
        self.assertEqual([least_kept(plan)["t"], least_written(plan)["t"]], [2, 3])

    def test_rings(self):
        plan = loops(3, a=[("text", "ab")], b=[("copy", 1, 1), FLUSH])
        self.assertEqual([least_kept(plan), least_written(plan)], [{"s": 0}, {"s": 0}])
        edges = {"in": ("s", "t", Piece("ab", [("text", "abab")])), "on": ("t", "t", Piece("ab", [FLUSH, ("text", "a")]))}
        self.assertEqual(least_kept(Plan("ab", 3, "s", edges)), {"s": 0, "t": 1})
        self.assertEqual(least_written(Plan("ab", 3, "s", edges)), {"s": 0, "t": 3})

    def test_states_that_no_row_comes_to(self):
        edges = {"a": ("s", "t", A), "b": ("x", "t", Piece("ab", [FLUSH, ("text", "a"), FLUSH])), "c": ("x", "y", A)}
        plan = Plan("ab", 3, "s", edges)
        self.assertEqual([least_kept(plan), least_written(plan)], [{"s": 0, "t": 1}] * 2)
        none = Plan("ab", 3, "q", edges)
        self.assertEqual([least_kept(none), least_written(none), unsound(none)], [{"q": 0}, {"q": 0}, []])

    def test_neither_asks_for_refusals(self):
        plan, row = one_line([("copy", 3, 2)], [("say", 3, 2)])
        self.assertEqual([least_kept(plan), least_written(plan)], [{"s": 0, "t": 2, "u": 3}] * 2)

    def test_ascending_keys(self):
        edges = {"a": ("m", "z", A), "b": ("z", "a", A), "c": ("a", "k", A)}
        for order in (list(edges), list(edges)[::-1]):
            plan = Plan("ab", 3, "m", {name: edges[name] for name in order})
            for told in (least_kept(plan), least_written(plan)):
                self.assertEqual(list(told.items()), [("a", 2), ("k", 3), ("m", 0), ("z", 1)])
                told.clear()

    def test_at_random(self):
        chance = random.Random(43)
        for _ in range(300):
            plan = made_plan(chance, width=chance.randint(1, 5))
            kept, written = {}, {}
            for state, one, other in numbers_behind(plan):
                kept[state] = min(one, kept.get(state, 12))
                written[state] = min(other, written.get(state, 12))
            self.assertEqual([least_kept(plan), least_written(plan)], [kept, written])


class Unsound(unittest.TestCase):
    def test_some_places_of_one_token(self):
        plan, row = one_line([("text", "a"), ("copy", 3, 4)])
        self.assertEqual(unsound(plan), [("a", 1), ("a", 2)])
        plan, row = one_line([("text", "a"), ("say", 3, 4)])
        self.assertEqual(unsound(plan), [("a", 1), ("a", 2)])
        plan, row = one_line([("text", "aba"), FLUSH], [("copy", 2, 3), ("say", 3, 1)])
        self.assertEqual(unsound(plan), [("b", 0), ("b", 1)])

    def test_edges_that_no_row_has(self):
        plan = Plan("ab", 3, "s", {"a": ("s", "t", A), "b": ("x", "t", Piece("ab", [("copy", 3, 1)]))})
        self.assertEqual([unsound(plan), refused_row(plan, "b", 0)], [[], None])

    def test_says_ask_for_written_signs_alone(self):
        plan, row = one_line([("text", "ab"), FLUSH], [FLUSH, ("say", 2, 1), ("copy", 1, 1), ("copy", 3, 1), ("say", 3, 1)])
        self.assertEqual(unsound(plan), [("b", 2)])

    def test_refused_row(self):
        edges = {
            "in": ("s", "t", Piece("ab", [("text", "aba")])), "on": ("t", "u", A), "cut": ("u", "t", Piece("ab", [FLUSH, ("text", "a")])),
            "end": ("t", "u", Piece("ab", [("copy", 2, 1), ("text", "a"), FLUSH, ("copy", 1, 1)])),
        }
        plan = Plan("ab", 3, "s", edges)
        self.assertEqual(unsound(plan), [("end", 0), ("end", 2)])
        self.assertIn(refused_row(plan, "end", 0), [["in", "on", "cut", "end"], ["in", "end", "cut", "end"]])
        self.assertEqual(refused_row(plan, "end", 2), ["in", "end"])
        self.assertEqual([refused_row(plan, "end", 1), refused_row(plan, "in", 0), refused_row(plan, "cut", 0)], [None] * 3)

    def test_unknown_then_no_place(self):
        plan, row = one_line([("copy", 1, 2)], [("text", "ab")])
        for name in ("c", "zz", "s"):
            self.assertEqual(raised(self, Unknown, refused_row, plan, name, -1).name, name)
        for edge in ("a", "b"):
            for index in (-1, 2, 40, -10 ** 30, 10 ** 30):
                error = raised(self, NoPlace, refused_row, plan, edge, index)
                self.assertEqual((error.edge, error.index), (edge, index))
        self.assertEqual([refused_row(plan, "a", 0), refused_row(plan, "a", 1)], [["a"], None])

    def test_at_random(self):
        chance = random.Random(44)
        told = 0
        for _ in range(300):
            plan = made_plan(chance, width=chance.randint(1, 5))
            before = plan.edges()
            least = refusals(plan)
            self.assertEqual(unsound(plan), sorted(least))
            for edge in plan.edges():
                for index in range(len(plan[edge][2])):
                    row = refused_row(plan, edge, index)
                    self.assertEqual(None if row is None else len(row), least.get((edge, index)))
                    if row is not None:
                        self.check_refused(plan, row, edge, index)
                        told += 1
            self.assertEqual(plan.edges(), before)
        self.assertGreater(told, 500)

    def check_refused(self, plan, row, edge, index):
        self.assertEqual(row[-1], edge)
        node = (plan.start, 0, 0)
        for name in row[:-1]:
            self.assertEqual(plan[name][0], node[0])
            node = (plan[name][1], *along(plan, name, node)[-1])
        self.assertEqual(plan[edge][0], node[0])
        kind, told = plan[edge][2].places()[index]
        self.assertGreater(told, along(plan, edge, node)[index][["copy", "say"].index(kind)])

    def test_sound_plans_refuse_no_reader(self):
        chance = random.Random(45)
        seen = [0, 0]
        for at in range(200):
            plan = made_sound(chance) if at % 2 else made_plan(chance)
            refused = []
            for row in rows_upto(plan, 4):
                fill = [chance.choice(choice) for choice in holes(plan, row)]
                try:
                    blocks = stream(plan, row, fill)
                except Short:
                    refused.append(row)
                else:
                    reader = Reader(plan.signs, plan.width)
                    self.assertEqual([reader.read_all(block) for block in blocks], texts(plan, row, fill))
            least = refusals(plan)
            if min(least.values(), default=5) <= 4:
                self.assertEqual(min(map(len, refused)), min(least.values()))
            else:
                self.assertEqual(refused, [])
            seen[len(refused) > 0] += 1
        self.assertGreater(min(seen), 50)


class Papers(unittest.TestCase):
    edges = {
        "a": ("s", "t", Piece("ab", [("text", "ab")])), "b": ("t", "t", A), "c": ("t", "s", Piece("ab", [("text", "a"), FLUSH])),
        "x": ("x", "t", Piece("ab", [FLUSH, ("text", "a"), FLUSH])),
    }
    plan = Plan("ab", 3, "s", edges)

    def holds(self, thing):
        told = is_kept_paper(self.plan, thing)
        self.assertIs(type(told), bool)
        return told

    def test_by_hand(self):
        self.assertEqual(least_kept(self.plan), {"s": 0, "t": 2})
        for number in range(-1, 5):
            self.assertIs(self.holds({"s": 0, "t": number}), number in (0, 1, 2))
            self.assertIs(self.holds({"t": number, "s": 0}), number in (0, 1, 2))
            self.assertIs(self.holds({"s": number, "t": 2}), number == 0)

    def test_wrong_keys(self):
        for thing in [
            {}, {"s": 0}, {"t": 2}, {"s": 0, "x": 0}, {"s": 0, "t": 2, "x": 0}, {"s": 0, "t": 2, None: 0}, {"s": 0, "u": 2},
            {"s": 0, b"t": 2}, {"s": 0, 1: 2}, {"s": 0, ("t",): 2}, {"s": 0, "T": 2}, {True: 0, "t": 2},
        ]:
            self.assertFalse(self.holds(thing), thing)

    def test_keys_that_are_equal_to_all(self):
        class Sly:
            def __eq__(self, other):
                return True

            def __hash__(self):
                return 0

        self.assertFalse(self.holds({"s": 0, Sly(): 2}) or self.holds({Sly(): 0, "t": 2}))

    def test_wrong_values(self):
        for thing in but(0, 1, 2):
            self.assertFalse(self.holds({"s": 0, "t": thing}), repr(thing)[:60])
        for thing in but(0):
            self.assertFalse(self.holds({"s": thing, "t": 0}), repr(thing)[:60])
        for thing in ODD + [[("s", 0), ("t", 2)], ["s", "t"], (("s", 0), ("t", 2))]:
            self.assertFalse(self.holds(thing), repr(thing)[:60])
        none = Plan("ab", 3, "q", self.edges)
        self.assertEqual([is_kept_paper(none, thing) for thing in ({"q": 0}, {"q": 1}, {}, {"q": False})], [True] + [False] * 3)

    def test_at_random(self):
        chance = random.Random(46)
        seen = {True: 0, False: 0}
        for _ in range(300):
            plan = made_plan(chance)
            least = least_kept(plan)
            self.assertTrue(is_kept_paper(plan, least))
            for state in least:
                if state != plan.start and least[state] < plan.width:
                    self.assertFalse(is_kept_paper(plan, {**least, state: least[state] + 1}))
            self.assertTrue(is_kept_paper(plan, {state: 0 for state in least}))
            paper = {**{state: chance.randint(0, plan.width) for state in least}, plan.start: 0}
            right = all(
                paper[plan[edge][1]] <= along(plan, edge, (None, paper[plan[edge][0]], 0))[-1][0] for edge in plan.used())
            self.assertIs(is_kept_paper(plan, paper), right)
            seen[right] += 1
        self.assertGreater(min(seen.values()), 50)

    def test_never_greater_than_the_least(self):
        chance = random.Random(47)
        for _ in range(500):
            plan = made_plan(chance, width=2)
            least = least_kept(plan)
            paper = {state: chance.randint(0, 2) for state in least}
            if is_kept_paper(plan, paper):
                self.assertTrue(all(paper[state] <= least[state] for state in least))


class Rest(unittest.TestCase):
    def test_what_is_returned_is_new(self):
        plan, row = one_line([("copy", 2, 1)], [("text", "a")])
        for _ in range(2):
            got = [unsound(plan), refused_row(plan, "a", 0)]
            self.assertEqual(got, [[("a", 0)], ["a"]])
            for one in got:
                one.append(None)
            paper = {"s": 0, "t": 1, "u": 2}
            self.assertTrue(is_kept_paper(plan, paper))
            self.assertEqual(paper, {"s": 0, "t": 1, "u": 2})

    def test_rows_lead_to_their_states(self):
        chance = random.Random(48)
        for _ in range(50):
            plan = made_plan(chance)
            for edge, index in unsound(plan):
                self.assertEqual(state_behind(plan, refused_row(plan, edge, index)), plan[edge][1])


if __name__ == "__main__":
    unittest.main()
