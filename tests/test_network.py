import itertools
import random
import unittest

from making import check_new, raised
from windowcuts.errors import NoLimit
from windowcuts.network import greatest_flow

GREAT = 10 ** 18 + 98


def reached(nodes, lines, sources, out):
    """The nodes on ways from the sources that pass none of those that are out."""
    found = {name for name in sources if name not in out}
    while True:
        more = {other for one, other in lines if one in found and other not in out}
        if more <= found:
            return found
        found |= more


def least_cut(nodes, lines, sources, sinks):
    """The least sum of limits of nodes that stand on all ways, by all sets of nodes; None if no set does."""
    limited = [name for name in nodes if nodes[name] is not None]
    best = None
    for many in range(len(limited) + 1):
        for out in itertools.combinations(limited, many):
            if not reached(nodes, lines, sources, out) & set(sinks):
                price = sum(nodes[name] for name in out)
                best = price if best is None else min(best, price)
    return best


class Flow(unittest.TestCase):
    def check(self, nodes, lines, sources, sinks):
        before = dict(nodes), list(lines), list(sources), list(sinks)
        told = greatest_flow(nodes, lines, sources, sinks)
        self.assertEqual((nodes, lines, sources, sinks), before)
        self.assertEqual((type(told), len(told)), (tuple, 3))
        amount, ways, cut = told
        self.assertEqual((type(amount), type(ways), type(cut)), (int, list, list))
        loads = dict.fromkeys(nodes, 0)
        for many, way in ways:
            self.assertEqual((type(many), type(way), many >= 1, len(set(way))), (int, list, True, len(way)))
            self.assertIn(way[0], sources)
            self.assertIn(way[-1], sinks)
            for line in zip(way, way[1:]):
                self.assertIn(line, lines)
            for name in way:
                loads[name] += many
        for name, load in loads.items():
            self.assertTrue(nodes[name] is None or load <= nodes[name])
        self.assertEqual(sum(many for many, _ in ways), amount)
        self.assertEqual(cut, sorted(set(cut)))
        self.assertNotIn(None, [nodes[name] for name in cut])
        self.assertEqual(sum(nodes[name] for name in cut), amount)
        self.assertEqual(reached(nodes, lines, sources, cut) & set(sinks), set())
        return amount

    def test_by_hand(self):
        nodes = {"a": 5, "b": 3, "c": 4, "d": None, "e": 6}
        lines = [("a", "b"), ("a", "c"), ("b", "d"), ("c", "d"), ("d", "e")]
        self.assertEqual(self.check(nodes, lines, ["a"], ["e"]), 5)
        self.assertEqual(self.check({**nodes, "a": None}, lines, ["a"], ["e"]), 6)
        self.assertEqual(self.check({**nodes, "a": None, "e": None}, lines, ["a"], ["e"]), 7)
        self.assertEqual(self.check(nodes, lines, ["b", "c"], ["d"]), 7)
        self.assertEqual(self.check(nodes, lines, ["e"], ["a"]), 0)
        self.assertEqual(greatest_flow(nodes, lines[:3], ["a"], ["d"]), (3, [(3, ["a", "b", "d"])], ["b"]))

    def test_sources_that_are_sinks(self):
        nodes = {"a": 3, "b": 4, "c": 0}
        self.assertEqual(greatest_flow(nodes, [], ["a"], ["a"]), (3, [(3, ["a"])], ["a"]))
        self.assertEqual(self.check(nodes, [], ["a", "b"], ["b", "a"]), 7)
        self.assertEqual(self.check(nodes, [("a", "b"), ("b", "a")], ["a", "b"], ["b", "a"]), 7)
        self.assertEqual(self.check(nodes, [("a", "b")], ["a", "b"], ["b"]), 4)
        self.assertEqual(self.check(nodes, [], ["c"], ["c"]), 0)
        self.assertEqual(self.check({"a": 3, "b": None}, [("a", "b")], ["a", "b"], ["a"]), 3)

    def test_what_stands_twice(self):
        nodes = {"a": 5, "b": 3, "c": 9}
        lines = [("a", "b"), ("b", "c")]
        once = greatest_flow(nodes, lines, ["a"], ["c"])
        self.assertEqual(greatest_flow(nodes, lines * 3, ["a"] * 2, ["c"] * 3), once)
        self.assertEqual(once, (3, [(3, ["a", "b", "c"])], ["b"]))
        self.assertEqual(self.check({"a": 5}, [], ["a", "a"], ["a", "a"]), 5)

    def test_no_way_at_all(self):
        nodes = {"a": 5, "b": None, "c": 9, "d": None}
        for lines, sources, sinks in [
            ([], [], []), ([("a", "c")], [], ["c"]), ([("a", "c")], ["a"], []), ([("c", "a")], ["a"], ["c"]),
            ([("a", "b"), ("c", "d")], ["a"], ["d", "c"]), ([], ["b"], ["d"]),
        ]:
            self.assertEqual(self.check(nodes, lines, sources, sinks), 0)
            self.assertEqual(greatest_flow(nodes, lines, sources, sinks)[1], [])
        self.assertEqual(greatest_flow({}, [], [], []), (0, [], []))

    def test_no_limit(self):
        nodes = {"a": None, "b": None, "c": None, "d": 1}
        lines = [("a", "b"), ("b", "c"), ("b", "d"), ("d", "c")]
        for sources, sinks in [(["a"], ["c"]), (["d", "a"], ["c"]), (["b"], ["d", "c"]), (["a"], ["a"]), (["d", "c"], ["c"])]:
            raised(self, NoLimit, greatest_flow, nodes, lines, sources, sinks)
        for sources, sinks in [(["c"], ["a"]), (["a"], ["d"]), (["d"], ["c"]), (["d"], ["d"]), ([], ["a"]), (["a"], [])]:
            self.check(nodes, lines, sources, sinks)
        raised(self, NoLimit, greatest_flow, {**nodes, "b": 0, "d": None}, lines + [("a", "d")], ["a"], ["c"])
        self.assertEqual(self.check({**nodes, "b": 0}, lines, ["a"], ["c"]), 0)
        self.assertEqual(self.check({**nodes, "b": GREAT}, lines, ["a"], ["c"]), GREAT)

    def test_limits_of_nought_and_great_ones(self):
        lines = [("a", "b"), ("b", "c"), ("a", "d"), ("d", "c")]
        for limits, amount in [
            ((GREAT, 0, GREAT, 1), 1), ((GREAT, GREAT, GREAT, GREAT), GREAT), ((None, GREAT, None, GREAT), 2 * GREAT),
            ((None, GREAT, GREAT, 5), GREAT), ((None, GREAT - 7, GREAT, 5), GREAT - 2), ((0, 0, 0, 0), 0), ((0, None, None, None), 0),
        ]:
            self.assertEqual(self.check(dict(zip("abcd", limits)), lines, ["a"], ["c"]), amount)

    def test_ways_that_must_be_turned_back(self):
        # The shortest way takes a line that stands in the way of two longer ones.
        nodes = {name: 1 for name in "abcdefgh"}
        lines = [("a", "c"), ("c", "d"), ("d", "h"), ("b", "d"), ("c", "e"), ("e", "f"), ("f", "g")]
        self.assertEqual(self.check(nodes, lines, ["a", "b"], ["h", "g"]), 2)

    def test_rings(self):
        nodes = {"a": 2, "b": 3, "c": 3, "d": None, "e": 2}
        lines = [("a", "b"), ("b", "c"), ("c", "d"), ("d", "b"), ("c", "e"), ("b", "a"), ("e", "a")]
        self.assertEqual(self.check(nodes, lines, ["a"], ["e"]), 2)
        self.assertEqual(self.check(nodes, lines, ["a", "d"], ["e", "b"]), 3)

    def test_what_is_borne_round_in_rings(self):
        """The first ways go z, a, b, w and y, a, c, v; what then comes to w and v turns them back, and rings are left at a."""
        nodes = dict.fromkeys(["z", "y", "w", "v", "q", "r"] + [f"{letter}{at}" for letter in "mnop" for at in range(8)], 1)
        nodes = {**nodes, "a": 5, "b": 2, "c": 2}
        one = [("z", "a"), ("a", "b"), ("b", "w"), ("b", "a"), ("q", "a"), ("a", "r"), ("m4", "w"), ("z", "n0")]
        both = one + [("y", "a"), ("a", "c"), ("c", "v"), ("c", "a"), ("o4", "v"), ("y", "p0")]
        ends = [(f"{letter}{at}", f"{letter}{at + 1}") for letter, many in (("m", 4), ("n", 7), ("o", 4), ("p", 7)) for at in range(many)]
        for lines, sources, sinks, amount in [
            (one, ["z", "m0", "q"], ["w", "r", "n7"], 3), (both, ["z", "y", "m0", "o0", "q"], ["w", "v", "r", "n7", "p7"], 5),
        ]:
            for order in (lines + ends, ends + lines[::-1]):
                self.assertEqual(self.check(nodes, order, sources, sinks), amount)

    def test_any_strings(self):
        nodes = {"": 2, " ": 5, "A b/~": 3, "a\nb": 4}
        self.assertEqual(self.check(nodes, [("", " "), (" ", "A b/~"), ("A b/~", "a\nb")], [""], ["a\nb"]), 2)

    def test_order_of_keys(self):
        chance = random.Random(110)
        for _ in range(60):
            nodes, lines, sources, sinks = self.network(chance, 7, 14, 5)
            other = {name: nodes[name] for name in list(nodes)[::-1]}
            if least_cut(nodes, lines, sources, sinks) is not None:
                told = greatest_flow(nodes, lines, sources, sinks)
                self.assertEqual(greatest_flow(other, lines, sources, sinks), told)
                self.assertEqual(check_new(self, lambda: greatest_flow(nodes, lines, sources, sinks)), told)

    def network(self, chance, most, lines, limit):
        names = [f"n{at}" for at in range(chance.randint(1, most))]
        chance.shuffle(names)
        nodes = {name: chance.choice([None, 0, chance.randint(0, limit), chance.randint(0, limit)]) for name in names}
        made = [tuple(chance.sample(names, 2)) for _ in range(chance.randint(0, lines) if len(names) > 1 else 0)]
        return nodes, made, chance.choices(names, k=chance.randint(0, 3)), chance.choices(names, k=chance.randint(0, 3))

    def test_against_all_cuts(self):
        chance = random.Random(111)
        seen = {"no limit": 0, "nothing": 0, "something": 0}
        for at in range(600):
            nodes, lines, sources, sinks = self.network(chance, 8, 16, [3, 20, GREAT][at % 3])
            least = least_cut(nodes, lines, sources, sinks)
            if least is None:
                raised(self, NoLimit, greatest_flow, nodes, lines, sources, sinks)
                seen["no limit"] += 1
            else:
                self.assertEqual(self.check(nodes, lines, sources, sinks), least)
                seen["something" if least else "nothing"] += 1
        self.assertGreater(min(seen.values()), 40, seen)

    def test_48_nodes_and_200_lines(self):
        chance = random.Random(112)
        for at in range(20):
            names = [f"n{at:02}" for at in range(48)]
            nodes = {name: chance.randint(0, GREAT) for name in names}
            if at % 2:
                for name in names[8:40:3]:
                    nodes[name] = None
            spread = [48, 9][at % 4 > 1]
            lines = []
            while len(lines) < 200:
                one, other = chance.randrange(48), chance.randrange(48)
                if one != other and abs(one - other) < spread:
                    lines.append((names[one], names[other]))
            self.check(nodes, lines, names[:6], names[42:])

    def test_layers_with_great_limits(self):
        """A way that bears one at a time would never end here."""
        names = [[f"l{layer}n{at}" for at in range(6)] for layer in range(8)]
        nodes = {name: GREAT - 17 * at for at, name in enumerate(itertools.chain(*names))}
        lines = [(one, other) for layer in range(7) for one in names[layer] for other in names[layer + 1]][:200]
        self.check(nodes, lines, names[0], names[5])


if __name__ == "__main__":
    unittest.main()
