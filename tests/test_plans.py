import unittest

from oddities import ODD, but
from windowcuts.errors import BadEdge, Clash, TooLong, Unknown, Unlike, Wrong
from windowcuts.pieces import Piece
from windowcuts.plans import Plan

A, B = Piece("ab", [("text", "a")]), Piece("ab", [("any", "ab"), ("flush",)])
THREE, SAID = Piece("ab", [("text", "a"), ("copy", 3, 1)]), Piece("ab", [("say", 3, 2)])
OTHER = Piece("abc", [("text", "a")])
NAMES = [letter for letter in "abcdefghijklmnopq"]
NAME_LIKE = ("a", "ab", "ba", "aa", "abc", "flush", "text", "any", "copy", "say")


def loops(many):
    return {name: ("s", "s", A) for name in NAMES[:many]}


def raised(test, kind, call, *arguments):
    with test.assertRaises(kind) as caught:
        call(*arguments)
    return caught.exception


class Making(unittest.TestCase):
    def wrong(self, place, *arguments):
        self.assertEqual(raised(self, Wrong, Plan, *arguments).place, place, repr(arguments)[:60])

    def test_wrong_arguments_in_order(self):
        bad_edges = {"a": ("s", "t", OTHER)}
        for thing in but("ab", "abc", "any", "copy"):
            self.wrong(0, thing, 0, "", {})
        for thing in but(1, 2, 12):
            self.wrong(1, "ab", thing, "", {})
        for thing in but(*NAME_LIKE):
            self.wrong(2, "ab", 3, thing, {})
        for thing in ODD:
            self.wrong(3, "ab", 3, "s", thing)
        self.wrong(0, "ba", 3, "s", bad_edges)
        self.wrong(1, "ab", 13, "s", bad_edges)
        self.wrong(2, "ab", 3, "S", bad_edges)
        self.wrong(3, "ab", 3, "s", {**bad_edges, "b": None})

    def test_wrong_edges(self):
        for thing in ODD:
            self.wrong(3, "ab", 3, "s", {"a": ("s", "t", A), "b": thing})
            self.wrong(3, "ab", 3, "s", {"a": ("s", "t", thing)})
            self.wrong(3, "ab", 3, "s", {"a": ["s", "t", thing]})
        for thing in but(*NAME_LIKE):
            self.wrong(3, "ab", 3, "s", {"a": (thing, "t", A)})
            self.wrong(3, "ab", 3, "s", {"a": ("s", thing, A)})
        for key in [None, True, 1, "", "A", "abcdefghi", "a b", ("a",), b"a"]:
            self.wrong(3, "ab", 3, "s", {key: ("s", "t", A), "b": ("s", "t", A)})
        for edge in [(), ("s", "t"), ("s", "t", A, A), [], ["s", A], {"s", "t"}, "sta", ("s", "t", [("text", "a")])]:
            self.wrong(3, "ab", 3, "s", {"a": edge})
        for edges in [[("a", ("s", "t", A))], ["a"], (), {}]:
            self.wrong(3, "ab", 3, "s", edges)

    def test_one_to_sixteen_edges(self):
        for many in (1, 15, 16):
            self.assertEqual(len(Plan("ab", 3, "s", loops(many))), many)
        self.wrong(3, "ab", 3, "s", loops(17))
        self.wrong(3, "ab", 3, "s", loops(0))
        self.wrong(3, "ab", 3, "s", {f"n{'abcdefghij'[n % 10]}" + "x" * (n // 10): ("s", "s", A) for n in range(60)})

    def test_bad_edge(self):
        for bad in (OTHER, THREE, SAID, Piece("ac", [("text", "a")])):
            edges = {"z": ("s", "t", bad), "b": ("s", "t", A), "m": ("s", "t", bad), "c": ("s", "t", B)}
            for order in (list(edges), list(edges)[::-1]):
                error = raised(self, BadEdge, Plan, "ab", 2, "s", {name: edges[name] for name in order})
                self.assertEqual(error.name, "m")
        self.assertEqual(len(Plan("ab", 3, "s", {"a": ("s", "t", THREE), "b": ("t", "t", SAID)})), 2)
        least = {"b": ("s", "t", THREE), "a": ("s", "t", OTHER)}
        self.assertEqual(raised(self, BadEdge, Plan, "ab", 2, "s", least).name, "a")

    def test_parts(self):
        edges = {"b": ["s", "t", B], "a": ("t", "s", A)}
        plan = Plan("ab", 3, "begin", edges)
        self.assertEqual((plan.signs, plan.width, plan.start, len(plan)), ("ab", 3, "begin", 2))
        self.assertEqual(plan.edges(), {"a": ("t", "s", A), "b": ("s", "t", B)})
        self.assertEqual(list(plan.edges()), ["a", "b"])
        self.assertTrue(all(type(edge) is tuple for edge in plan.edges().values()))
        self.assertEqual((plan["b"], type(plan["b"])), (("s", "t", B), tuple))

    def test_passed_and_returned_things_are_apart(self):
        inner = ["s", "t", A]
        edges = {"a": inner, "b": ("t", "t", B)}
        plan = Plan("ab", 3, "s", edges)
        self.assertEqual(edges, {"a": ["s", "t", A], "b": ("t", "t", B)})
        inner[1] = "u"
        edges["c"] = ("s", "s", A)
        del edges["b"]
        for _ in range(2):
            for got in (plan.states(), plan.out("t"), plan.reached(), plan.used()):
                got.append("x")
            plan.edges().clear()
        self.assertEqual(plan, Plan("ab", 3, "s", {"a": ("s", "t", A), "b": ("t", "t", B)}))
        self.assertEqual((plan.states(), plan.out("t"), plan.reached(), plan.used()), (
            ["s", "t"], ["b"], ["s", "t"], ["a", "b"]))


class Asking(unittest.TestCase):
    plan = Plan("ab", 3, "s", {
        "z": ("s", "t", A), "a": ("t", "s", A), "m": ("t", "u", B), "far": ("x", "s", A), "off": ("x", "y", B),
    })

    def test_equality(self):
        edges = {"a": ("s", "t", A), "b": ("t", "t", B)}
        plan = Plan("ab", 3, "s", edges)
        self.assertIs(plan == Plan("ab", 3, "s", {"b": ["t", "t", B], "a": ["s", "t", A]}), True)
        self.assertIs(plan != Plan("ab", 3, "s", edges), False)
        wide = {name: (source, target, OTHER) for name, (source, target, _) in edges.items()}
        for other in [
            Plan("ab", 4, "s", edges), Plan("ab", 3, "t", edges), Plan("ab", 3, "s", {"a": ("s", "t", A)}),
            Plan("ab", 3, "s", {**edges, "b": ("t", "s", B)}), Plan("ab", 3, "s", {**edges, "b": ("t", "t", A)}),
            Plan("abc", 3, "s", wide), edges,
        ] + ODD:
            self.assertIs(plan == other, False)

    def test_in_and_items(self):
        for name in ["z", "a", "m", "far", "off"]:
            self.assertIs(name in self.plan, True)
            self.assertEqual(self.plan[name], self.plan.edges()[name])
        for thing in but("a") + ["s", "t", "zz", ["a"], ("a",), {"a": 1}, 0]:
            self.assertIs(thing in self.plan, False)
            self.assertIs(raised(self, Unknown, lambda it=thing: self.plan[it]).name, thing)

    def test_is_not_iterated_over(self):
        self.assertRaises(TypeError, list, self.plan)

    def test_states(self):
        self.assertEqual(self.plan.states(), ["s", "t", "u", "x", "y"])
        self.assertEqual(Plan("ab", 3, "q", {"a": ("s", "t", A)}).states(), ["q", "s", "t"])

    def test_out(self):
        found = {state: self.plan.out(state) for state in self.plan.states()}
        self.assertEqual(found, {"s": ["z"], "t": ["a", "m"], "u": [], "x": ["far", "off"], "y": []})
        self.assertEqual(Plan("ab", 3, "q", {"a": ("s", "t", A)}).out("q"), [])
        for name in ["z", "q", "m", "far"]:
            self.assertEqual(raised(self, Unknown, self.plan.out, name).name, name)

    def test_reached_and_used(self):
        self.assertEqual((self.plan.reached(), self.plan.used()), (["s", "t", "u"], ["a", "m", "z"]))
        none = Plan("ab", 3, "q", {"a": ("s", "t", A), "b": ("t", "q", A)})
        self.assertEqual((none.reached(), none.used()), (["q"], []))
        chain = Plan("ab", 3, "c", {"x": ("a", "d", A), "y": ("c", "b", A), "z": ("b", "a", A)})
        self.assertEqual((chain.reached(), chain.used()), (["a", "b", "c", "d"], ["x", "y", "z"]))


class Changing(unittest.TestCase):
    plan = Plan("ab", 2, "s", {"a": ("s", "t", A), "b": ("t", "t", B)})

    def test_union(self):
        other = Plan("ab", 2, "s", {"c": ("t", "u", A), "b": ("t", "t", B)})
        edges = {"a": ("s", "t", A), "b": ("t", "t", B), "c": ("t", "u", A)}
        for got in (self.plan | other, other | self.plan):
            self.assertEqual(got, Plan("ab", 2, "s", edges))
            self.assertEqual(list(got.edges()), ["a", "b", "c"])
        self.assertEqual((self.plan | self.plan, len(self.plan), len(other)), (self.plan, 2, 2))

    def test_common_part(self):
        other = Plan("ab", 2, "s", {"c": ("t", "u", A), "b": ("t", "t", B)})
        for got in (self.plan & other, other & self.plan):
            self.assertEqual(got, Plan("ab", 2, "s", {"b": ("t", "t", B)}))
        self.assertEqual(self.plan & self.plan, self.plan)

    def test_unlike_then_clash_then_too_long(self):
        sixteen = Plan("ab", 2, "s", {name: ("s", "s", A) for name in NAMES[1:]})
        clash = {"b": ("s", "t", A), "a": ("s", "s", A), "c": ("s", "s", A)}
        full = {name: ("s", "s", OTHER) for name in clash}
        for other in [Plan("abc", 2, "s", full), Plan("ab", 3, "s", clash), Plan("ab", 2, "t", clash)]:
            for call in (lambda: self.plan | other, lambda: self.plan & other, lambda: other | self.plan):
                self.assertRaises(Unlike, call)
        other = Plan("ab", 2, "s", clash)
        for call in (lambda: self.plan | other, lambda: other & self.plan):
            self.assertEqual(raised(self, Clash, call).name, "a")
        alone = Plan("ab", 2, "s", {"a": ("s", "t", A), "q": ("s", "s", B)})
        self.assertEqual(raised(self, Clash, lambda: sixteen | alone).name, "q")
        far = Plan("ab", 2, "s", {"a": ("s", "t", A)})
        self.assertEqual(raised(self, TooLong, lambda: sixteen | far).limit, 16)
        self.assertEqual(raised(self, TooLong, lambda: sixteen & far).limit, 0)
        fifteen = Plan("ab", 2, "s", {name: ("s", "s", A) for name in NAMES[2:]})
        self.assertEqual(len(fifteen | far), 16)

    def test_changed(self):
        got = self.plan.changed("b", "s", "u", A)
        self.assertEqual(got, Plan("ab", 2, "s", {"a": ("s", "t", A), "b": ("s", "u", A)}))
        more = self.plan.changed("aa", "u", "v", B)
        self.assertEqual(list(more.edges()), ["a", "aa", "b"])
        self.assertEqual(more["aa"], ("u", "v", B))
        self.assertEqual(self.plan, Plan("ab", 2, "s", {"a": ("s", "t", A), "b": ("t", "t", B)}))

    def test_changed_wrong(self):
        for thing in but(*NAME_LIKE):
            self.assertEqual(raised(self, Wrong, self.plan.changed, thing, "", "", None).place, 0)
            self.assertEqual(raised(self, Wrong, self.plan.changed, "a", thing, "", None).place, 1)
            self.assertEqual(raised(self, Wrong, self.plan.changed, "a", "s", thing, None).place, 2)
        for thing in ODD:
            self.assertEqual(raised(self, Wrong, self.plan.changed, "a", "s", "t", thing).place, 3)

    def test_changed_bad_edge_then_too_long(self):
        full = Plan("ab", 2, "s", loops(16))
        for plan in (self.plan, full):
            for bad in (OTHER, THREE, SAID):
                self.assertEqual(raised(self, BadEdge, plan.changed, "q", "s", "t", bad).name, "q")
        self.assertEqual(raised(self, TooLong, full.changed, "q", "s", "t", A).limit, 16)
        self.assertEqual(full.changed("p", "s", "t", B)["p"], ("s", "t", B))

    def test_without(self):
        got = self.plan.without("a")
        self.assertEqual(got, Plan("ab", 2, "s", {"b": ("t", "t", B)}))
        self.assertEqual(len(self.plan), 2)
        self.assertEqual(raised(self, Unknown, got.without, "a").name, "a")
        self.assertEqual(raised(self, TooLong, got.without, "b").limit, 0)


if __name__ == "__main__":
    unittest.main()
