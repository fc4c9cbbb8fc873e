import random
import unittest

from making import check_new, loops, made_piece, made_plan, raised
from oddities import ODD
from windowcuts.draft import Draft
from windowcuts.errors import BadEdge, Full, NoEdit, NoEntry, Nothing, TooLong, Unknown, Wrong
from windowcuts.pieces import Piece
from windowcuts.plans import Plan

A = Piece("ab", [("text", "a")])
B = Piece("ab", [("text", "b")])
FAR = Piece("ab", [("copy", 5, 1)])
OTHER = Piece("abc", [("text", "c")])
LETTERS = "abcdefghijklmnop"


def two():
    return Plan("ab", 3, "s", {"a": ("s", "t", A), "b": ("t", "t", Piece("ab", [("copy", 2, 1)]))})


def all_of(draft):
    """Everything that a Draft tells."""
    edges = {name: draft[name] for name in LETTERS if name in draft}
    return draft.window, draft.entry, edges, draft.log(), len(draft)


class Making(unittest.TestCase):
    def test_wrong(self):
        for thing in ODD + [two().edges(), [two()], (two(),), Draft(two()), Plan, Draft]:
            self.assertEqual(raised(self, Wrong, Draft, thing).place, 0)

    def test_of_a_plan(self):
        draft = Draft(two())
        self.assertEqual([draft.window, draft.entry, draft.plan(), draft.log(), len(draft)], [3, "s", two(), [], 0])
        self.assertIs(type(draft.plan()), Plan)
        self.assertEqual(draft["a"], ("s", "t", A))

    def test_properties_are_read_alone(self):
        draft = Draft(two())
        for name in ("window", "entry"):
            with self.assertRaises(AttributeError):
                setattr(draft, name, 5)

    def test_not_iterated_over(self):
        for call in (iter, list, set, sorted, lambda draft: [*draft], lambda draft: [name for name in draft]):
            with self.assertRaises(TypeError):
                call(Draft(two()))

    def test_the_plan_stays(self):
        plan = two()
        draft = Draft(plan)
        draft["a"] = ("x", "y", B)
        draft.take("b")
        draft.widen(7)
        draft.begin("q")
        self.assertEqual(plan, two())
        self.assertEqual(draft.plan(), Plan("ab", 7, "q", {"a": ("x", "y", B)}))


class Edits(unittest.TestCase):
    def refused(self, draft, kind, call, *arguments):
        """The error of a call, behind which everything is as it was ahead."""
        before, copy = all_of(draft), draft.copied()
        error = raised(self, kind, call, *arguments)
        self.assertEqual(all_of(draft), before)
        self.assertEqual(draft, copy)
        return error

    def put(self, draft, name, thing):
        draft[name] = thing

    def added(self, draft, thing):
        draft += thing
        return draft

    def test_put(self):
        draft = Draft(two())
        draft["a"] = ("x", "y", B)
        draft["c"] = ["t", "u", A]
        self.assertEqual([draft["a"], draft["c"], len(draft)], [("x", "y", B), ("t", "u", A), 2])
        self.assertIs(type(draft["c"]), tuple)
        self.assertEqual(draft.log(), [("put", "a", "x", "y", B), ("put", "c", "t", "u", A)])
        draft["a"] = ("x", "y", B)
        self.assertEqual(len(draft), 3)
        self.assertEqual(draft.plan().edges(), {"a": ("x", "y", B), "b": two()["b"], "c": ("t", "u", A)})

    def test_what_is_put_is_copied(self):
        draft = Draft(two())
        edge = ["t", "u", A]
        draft["c"] = edge
        edge[0] = "x"
        edge.clear()
        self.assertEqual(draft["c"], ("t", "u", A))

    def test_no_edit(self):
        draft = Draft(two())
        good = ("s", "t", A)
        for thing in ODD:
            if thing not in ("a", "ab", "aa", "ba", "abc", "flush", "text", "any", "copy", "say") or type(thing) is not str:
                self.refused(draft, NoEdit, self.put, draft, thing, good)
                self.refused(draft, NoEdit, self.put, draft, "a", (thing, "t", A))
                self.refused(draft, NoEdit, self.put, draft, "a", ["s", thing, A])
                self.refused(draft, NoEdit, draft.begin, thing)
            self.refused(draft, NoEdit, self.put, draft, "a", thing)
            self.refused(draft, NoEdit, self.put, draft, "a", ("s", "t", thing))
            self.refused(draft, NoEdit, self.added, draft, thing)
            if type(thing) is not int or not 1 <= thing <= 12:
                self.refused(draft, NoEdit, draft.widen, thing)
        for thing in [("s", "t"), ("s", "t", A, A), {"s": 1, "t": 2, A.signs: 3}, "stA", ("s", "T", A), ("s", "t", two()), ("s", "t", A.tokens()), ("s", "t", Piece)]:
            self.refused(draft, NoEdit, self.put, draft, "a", thing)
        for name in ["", "A", "abcdefghi", "a1", "a b", None, 1, ("a",), ["a"], b"a"]:
            self.refused(draft, NoEdit, self.put, draft, name, good)
        for thing in [two().edges(), Draft(two()), [two()], Plan("abc", 3, "s", {"z": ("s", "t", OTHER)}), Plan, None]:
            self.refused(draft, NoEdit, self.added, draft, thing)
        self.assertEqual(len(draft), 0)

    def full(self, many=100):
        draft = Draft(two())
        for at in range(many):
            draft.begin("s" if at % 2 else "t")
        return draft

    def test_full(self):
        draft = self.full()
        self.assertEqual(len(draft), 100)
        for call, arguments in [
            (self.put, (draft, "a", ("s", "t", A))), (self.put, (draft, "a", ("s", "t", FAR))), (self.put, (draft, "z", ("s", "t", OTHER))),
            (draft.take, ("a",)), (draft.take, ("zz",)), (draft.take, (None,)), (draft.take, ([],)), (draft.widen, (3,)), (draft.widen, (1,)),
            (draft.begin, ("s",)), (self.added, (draft, two())), (self.added, (draft, Plan("ab", 9, "s", {"z": ("s", "t", FAR)}))),
        ]:
            self.assertEqual(self.refused(draft, Full, call, *arguments).limit, 100)
        for call, arguments in [
            (self.put, (draft, "A", ("s", "t", A))), (self.put, (draft, "a", ("s", "t"))), (draft.widen, (0,)), (draft.widen, (True,)), (draft.begin, ("S",)),
            (self.added, (draft, None)),
        ]:
            self.refused(draft, NoEdit, call, *arguments)
        draft.back()
        for edit in (lambda: draft.take("a"), lambda: draft.widen(2), lambda: draft.begin("q"), lambda: self.put(draft, "a", ("s", "t", A))):
            edit()
            self.assertEqual(len(draft), 100)
            draft.back()

    def test_full_of_the_edges_of_a_plan(self):
        draft = self.full(98)
        self.assertEqual(self.refused(draft, Full, self.added, draft, loops(3, c=[("text", "a")], d=[("text", "a")], e=[("copy", 3, 1)])).limit, 100)
        draft += loops(3, c=[("text", "a")], d=[("text", "a")])
        self.assertEqual(len(draft), 100)
        one = self.full(99)
        self.refused(one, Full, self.added, one, two())
        one += two().without("b")
        self.assertEqual((len(one), one.log()[-1]), (100, ("put", "a", "s", "t", A)))

    def test_bad_edges(self):
        draft = Draft(two())
        for name, piece in [("a", FAR), ("c", FAR), ("c", OTHER), ("c", Piece("ab", [("text", "a"), ("say", 4, 1)])), ("c", Piece("abc", [("text", "a")]))]:
            self.assertEqual(self.refused(draft, BadEdge, self.put, draft, name, ("s", "t", piece)).name, name)
        draft.widen(5)
        draft["c"] = ("s", "t", FAR)
        self.assertEqual(draft["c"], ("s", "t", FAR))

    def test_bad_edge_ahead_of_too_long(self):
        draft = Draft(Plan("ab", 3, "s", {name: ("s", "t", A) for name in LETTERS}))
        self.assertEqual(self.refused(draft, BadEdge, self.put, draft, "q", ("s", "t", FAR)).name, "q")
        self.assertEqual(self.refused(draft, TooLong, self.put, draft, "q", ("s", "t", A)).limit, 16)
        draft["p"] = ("s", "t", B)
        draft.take("a")
        draft["q"] = ("s", "t", A)
        self.assertEqual(len(draft.plan()), 16)
        self.assertEqual(self.refused(draft, TooLong, self.put, draft, "a", ("s", "t", A)).limit, 16)

    def test_take(self):
        draft = Draft(two())
        self.assertEqual(draft.take("b"), two()["b"])
        self.assertEqual([draft.log(), "b" in draft, draft.plan()], [[("take", "b")], False, two().without("b")])
        for thing in ODD + ["b", "z", ("a",), ["a"]]:
            if type(thing) is not str or thing != "a":
                error = self.refused(draft, Unknown, draft.take, thing)
                self.assertIs(error.name, thing)
        self.assertEqual(draft.take("a"), ("s", "t", A))
        self.assertEqual(self.refused(draft, TooLong, draft.plan).limit, 0)

    def test_without_edges(self):
        draft = Draft(two().without("b"))
        draft.take("a")
        self.assertEqual([draft.window, draft.entry, len(draft), "a" in draft], [3, "s", 1, False])
        self.assertEqual(raised(self, TooLong, draft.plan).limit, 0)
        draft.widen(1)
        draft["z"] = ("p", "q", B)
        self.assertEqual(draft.plan(), Plan("ab", 1, "s", {"z": ("p", "q", B)}))

    def test_widen_and_begin(self):
        draft = Draft(two())
        self.assertEqual([draft.widen(12), draft.begin("x"), draft.widen(12), draft.widen(2)], [None] * 4)
        self.assertEqual([draft.window, draft.entry, draft.plan()], [2, "x", Plan("ab", 2, "x", two().edges())])
        self.assertEqual(draft.log(), [("width", 12), ("start", "x"), ("width", 12), ("width", 2)])
        self.assertEqual(self.refused(draft, BadEdge, draft.widen, 1).name, "b")
        draft["aa"] = ("s", "t", Piece("ab", [("say", 2, 1)]))
        self.assertEqual(self.refused(draft, BadEdge, draft.widen, 1).name, "aa")
        for width in (0, 13, -1, 100):
            self.refused(draft, NoEdit, draft.widen, width)
        draft.take("aa")
        draft.take("b")
        draft.widen(1)
        self.assertEqual(draft.window, 1)

    def test_add_a_plan(self):
        draft = Draft(two())
        same = draft
        draft += Plan("ab", 1, "zz", {"c": ("x", "y", B), "a": ("t", "s", B)})
        self.assertIs(draft, same)
        self.assertEqual(draft.log(), [("put", "a", "t", "s", B), ("put", "c", "x", "y", B)])
        self.assertEqual(draft.plan(), Plan("ab", 3, "s", {"a": ("t", "s", B), "b": two()["b"], "c": ("x", "y", B)}))

    def test_add_a_plan_with_great_distances(self):
        draft = Draft(two())
        wide = Plan("ab", 9, "s", {"z": ("s", "t", FAR), "c": ("s", "t", B), "d": ("s", "t", FAR)})
        self.assertEqual(self.refused(draft, BadEdge, self.added, draft, wide).name, "d")
        many = Plan("ab", 9, "s", {**{name: ("s", "t", A) for name in "cdefghijklmnopq"}, "z": ("s", "t", FAR)})
        self.assertEqual(self.refused(draft, BadEdge, self.added, draft, many).name, "z")
        self.assertEqual(self.refused(draft, TooLong, self.added, draft, many.without("z")).limit, 16)
        draft += many.without("z").without("q")
        self.assertEqual(len(draft.plan()), 16)
        draft += two()
        self.assertEqual(len(draft), 16)

    def test_contains_and_item(self):
        draft = Draft(two())
        for thing in ODD + ["z", "s", ("a",), ["a"], two()]:
            right = type(thing) is str and thing == "a"
            self.assertIs(thing in draft, right)
            if not right:
                self.assertIs(raised(self, Unknown, lambda: draft[thing]).name, thing)
        self.assertIs("b" in draft, True)


class Back(unittest.TestCase):
    def done(self):
        draft = Draft(two())
        draft["c"] = ("t", "u", A)
        draft.take("b")
        draft.widen(5)
        draft["c"] = ("x", "y", FAR)
        draft.begin("x")
        return draft

    edits = [("put", "c", "t", "u", A), ("take", "b"), ("width", 5), ("put", "c", "x", "y", FAR), ("start", "x")]

    def test_back_and_again(self):
        draft = self.done()
        self.assertEqual(draft.log(), self.edits)
        states = [self.done().past(many) for many in range(6)]
        for many in range(4, -1, -1):
            self.assertEqual(draft.back(), self.edits[many])
            self.assertEqual(draft, states[many])
            self.assertEqual(all_of(draft), all_of(states[many]))
        raised(self, Nothing, draft.back)
        self.assertEqual(draft.plan(), two())
        for many in range(5):
            self.assertEqual(draft.again(), self.edits[many])
            self.assertEqual(all_of(draft), all_of(states[many + 1]))
        raised(self, Nothing, draft.again)
        self.assertEqual(draft, self.done())

    def test_a_new_edit_takes_away_what_was_undone(self):
        for edit in (lambda draft: draft.begin("q"), lambda draft: draft.widen(5), lambda draft: draft.take("c"), self.put, self.added):
            draft = self.done()
            draft.back()
            draft.back()
            self.assertEqual(draft.again(), self.edits[3])
            draft.back()
            edit(draft)
            raised(self, Nothing, draft.again)
            self.assertEqual((len(draft), draft.log()[:3]), (4, self.edits[:3]))
            draft.back()
            self.assertEqual(draft.again(), draft.log()[3])

    def put(self, draft):
        draft["z"] = ("s", "t", B)

    def added(self, draft):
        draft += loops(2, z=[("text", "b")])

    def test_what_is_refused_takes_nothing_away(self):
        draft = self.done()
        draft.back()
        for kind, call in [
            (NoEdit, lambda: draft.widen(0)), (BadEdge, lambda: draft.widen(1)), (Unknown, lambda: draft.take("b")), (NoEdit, lambda: draft.begin("")),
            (NoEntry, lambda: draft.past(5)), (BadEdge, lambda: self.bad(draft)), (NoEdit, lambda: self.none(draft)),
        ]:
            raised(self, kind, call)
        draft.plan(), draft.log(), draft.copied(), draft.past(2), "a" in draft, draft["a"]
        self.assertEqual(draft.again(), self.edits[4])
        self.assertEqual(draft, self.done())

    def bad(self, draft):
        draft["z"] = ("s", "t", OTHER)

    def none(self, draft):
        draft += None

    def test_past(self):
        draft = self.done()
        draft.back()
        for many in range(5):
            past = draft.past(many)
            self.assertEqual((past.log(), len(past)), (self.edits[:many], many))
            raised(self, Nothing, past.again)
        self.assertEqual([draft.past(0).plan(), draft.past(1).plan()], [two(), two().changed("c", "t", "u", A)])
        for thing in ODD + [5, 6, -1, True, False, "1", None]:
            if type(thing) is not int or not 0 <= thing <= 4:
                self.assertIs(raised(self, NoEntry, draft.past, thing).at, thing)
        past = draft.past(2)
        past.begin("z")
        past.take("c")
        self.assertEqual((len(draft), draft.entry, past.entry), (4, "s", "z"))
        self.assertEqual(past.back(), ("take", "c"))
        self.assertEqual([past.back() for _ in range(3)], [("start", "z"), self.edits[1], self.edits[0]])
        raised(self, Nothing, past.back)
        self.assertEqual(draft.again(), self.edits[4])

    def test_copied(self):
        draft = self.done()
        draft.back()
        draft.back()
        copy = draft.copied()
        self.assertEqual((copy, all_of(copy)), (draft, all_of(draft)))
        self.assertEqual(copy.again(), self.edits[3])
        self.assertEqual((len(copy), len(draft)), (4, 3))
        copy["q"] = ("s", "t", A)
        raised(self, Nothing, copy.again)
        self.assertEqual([draft.again(), draft.again()], self.edits[3:])
        draft.take("a")
        self.assertIn("a", copy)
        self.assertNotIn("q", draft)

    def test_log_is_new(self):
        draft = self.done()
        self.assertEqual(check_new(self, draft.log), self.edits)
        self.assertEqual([type(edit) for edit in draft.log()], [tuple] * 5)


class Equal(unittest.TestCase):
    def test_by_hand(self):
        one, other = Draft(two()), Draft(two())
        self.assertTrue(one == other)
        self.assertFalse(one != other)
        one.begin("s")
        self.assertFalse(one == other)
        other.begin("s")
        self.assertTrue(one == other)
        one.back()
        other.back()
        self.assertTrue(one == other)
        one.again()
        one.back()
        self.assertTrue(one == other)

    def test_parts(self):
        plans = [
            two(), Plan("ab", 4, "s", two().edges()), Plan("ab", 3, "t", two().edges()), two().without("b"), two().changed("a", "s", "t", B),
            Plan("abc", 3, "s", {"a": ("s", "t", Piece("abc", [("text", "a")])), "b": ("t", "t", Piece("abc", [("copy", 2, 1)]))}),
        ]
        for at, one in enumerate(plans):
            for on, other in enumerate(plans):
                self.assertIs(Draft(one) == Draft(other), at == on)

    def test_signs_of_drafts_without_edges(self):
        drafts = [Draft(loops(3, signs=signs, a=[("text", "a")])) for signs in ("ab", "ab", "abc")]
        for draft in drafts:
            draft.take("a")
        self.assertTrue(drafts[0] == drafts[1])
        self.assertFalse(drafts[0] == drafts[2])

    def test_logs(self):
        one, other = Draft(two()), Draft(two().changed("a", "s", "t", B))
        one["a"] = ("s", "t", B)
        self.assertFalse(one == other)
        other["a"] = ("s", "t", B)
        # Edges as they stand and logs are the same, whatever they were made of.
        self.assertTrue(one == other)
        self.assertEqual(one.plan(), other.plan())

    def test_nothing_else(self):
        draft = Draft(two())
        for thing in ODD + [two(), two().edges(), []]:
            if type(thing).__name__ != "Sly":
                self.assertFalse(draft == thing)
                self.assertTrue(draft != thing)


class AtRandom(unittest.TestCase):
    """Against a list of what stood behind each edit."""

    def test_edits(self):
        chance = random.Random(160)
        for _ in range(60):
            plan = made_plan(chance, edges="abc")
            draft = Draft(plan)
            stood = [(plan.width, plan.start, plan.edges())]
            log, undone = [], []
            for _ in range(chance.choice([10, 40, 130])):
                how = chance.randrange(10)
                if how == 0:
                    if log:
                        self.assertEqual(draft.back(), log[-1])
                        undone.append((log.pop(), stood.pop()))
                    else:
                        raised(self, Nothing, draft.back)
                elif how == 1:
                    if undone:
                        edit, state = undone.pop()
                        self.assertEqual(draft.again(), edit)
                        log.append(edit)
                        stood.append(state)
                    else:
                        raised(self, Nothing, draft.again)
                else:
                    edits = self.edit(chance, draft, stood[-1], len(log))
                    for edit, state in edits:
                        undone = []
                        log.append(edit)
                        stood.append(state)
                self.assertEqual((draft.window, draft.entry, draft.log(), len(draft)), (*stood[-1][:2], log, len(log)))
                self.assertEqual({name: draft[name] for name in LETTERS if name in draft}, stood[-1][2])
            many = chance.randint(0, len(log))
            past = draft.past(many)
            self.assertEqual((past.window, past.entry, past.log()), (*stood[many][:2], log[:many]))
            if stood[-1][2]:
                self.assertEqual(draft.plan(), Plan("ab", *stood[-1][:2], stood[-1][2]))

    def edit(self, chance, draft, state, many):
        """Do an edit, and return what it is and what stands behind it, or nothing if it is refused."""
        width, start, edges = state
        how = chance.randrange(5)
        if how == 0:
            name = chance.choice(LETTERS[:6])
            if many == 100 or name not in edges:
                raised(self, Full if many == 100 else Unknown, draft.take, name)
                return []
            self.assertEqual(draft.take(name), edges[name])
            return [(("take", name), (width, start, {one: edges[one] for one in edges if one != name}))]
        if how == 1:
            wide = chance.randint(1, 6)
            if many == 100:
                raised(self, Full, draft.widen, wide)
                return []
            bad = [name for name in sorted(edges) if any(kind in ("copy", "say") and told > wide for kind, told in edges[name][2].places())]
            if bad:
                self.assertEqual(raised(self, BadEdge, draft.widen, wide).name, bad[0])
                return []
            draft.widen(wide)
            return [(("width", wide), (wide, start, edges))]
        if how == 2:
            begin = chance.choice("stu")
            if many == 100:
                raised(self, Full, draft.begin, begin)
                return []
            draft.begin(begin)
            return [(("start", begin), (width, begin, edges))]
        name = chance.choice(LETTERS[:6])
        edge = (chance.choice("stu"), chance.choice("stu"), made_piece(chance, chance.choice([width, 6])))
        if many == 100:
            raised(self, Full, draft.__setitem__, name, edge)
            return []
        if any(kind in ("copy", "say") and told > width for kind, told in edge[2].places()):
            self.assertEqual(raised(self, BadEdge, draft.__setitem__, name, edge).name, name)
            return []
        draft[name] = edge if chance.random() < 0.5 else list(edge)
        return [(("put", name, *edge), (width, start, {**edges, name: edge}))]


if __name__ == "__main__":
    unittest.main()
