import random
import unittest

from making import made_plan, one_line, raised, sixteen
from oddities import ODD
from windowcuts.alone import beginnings
from windowcuts.counts import unsound
from windowcuts.damage import Damage, lost_marks
from windowcuts.desk import Desk
from windowcuts.draft import Draft
from windowcuts.errors import BadEdge, Full, NoCommand, NoPlace, NoRow, Nothing, Short, TooLong, Unknown, Unreached, Unsound, WindowError, Wrong
from windowcuts.facts import Facts
from windowcuts.notation import show_plan
from windowcuts.pieces import Piece
from windowcuts.plans import Plan
from windowcuts.pressing import fixed_sign
from windowcuts.rows import holes, rows_upto, texts

A = Piece("ab", [("text", "a")])


def plan_here():
    return Plan("ab", 3, "s", {
        "new": ("s", "t", Piece("ab", [("any", "ab"), ("text", "a")])), "more": ("t", "t", Piece("ab", [("copy", 2, 1), ("text", "b")])),
        "end": ("t", "u", Piece("ab", [("copy", 1, 2)])), "off": ("x", "y", A),
    })


class Making(unittest.TestCase):
    def test_wrong(self):
        for thing in ODD + [Draft(plan_here()), plan_here().edges(), [plan_here()], Plan, "plan"]:
            self.assertEqual(raised(self, Wrong, Desk, thing).place, 0)

    def test_the_plan_stays(self):
        plan = plan_here()
        desk = Desk(plan)
        desk.execute("take end")
        desk.execute("width 12")
        self.assertEqual(plan, plan_here())


class Lines(unittest.TestCase):
    def refused(self, desk, kind, line):
        """The error of a line, behind which everything is as it was ahead."""
        before = desk.draft()
        error = raised(self, kind, desk.execute, line)
        self.assertEqual(desk.draft(), before)
        return error

    def test_edits(self):
        desk = Desk(plan_here())
        for line, answer in [
            ("edge new s t ?ab =a c1.2 s2.1 !", "1"), ("edge z t zz =b", "2"), ("take end", "3"), ("width 12", "4"), ("start z", "5"), ("back", "4"),
            ("back", "3"), ("again", "4"), ("edge far z t c12.40", "5"), ("back", "4"), ("width 12", "5"), ("start s", "6"),
        ]:
            self.assertEqual(desk.execute(line), answer, line)
        self.assertEqual(desk.draft().log(), [
            ("put", "new", "s", "t", Piece("ab", [("any", "ab"), ("text", "a"), ("copy", 1, 2), ("say", 2, 1), ("flush",)])), ("put", "z", "t", "zz", Piece("ab", [("text", "b")])),
            ("take", "end"), ("width", 12), ("width", 12), ("start", "s"),
        ])

    def test_what_edits_refuse(self):
        desk = Desk(plan_here())
        self.refused(desk, Nothing, "back")
        self.refused(desk, Nothing, "again")
        for line, kind, fields in [
            ("edge z s t c4.1", BadEdge, {"name": "z"}), ("edge new s t =a s12.1", BadEdge, {"name": "new"}), ("width 1", BadEdge, {"name": "more"}),
            ("take z", Unknown, {"name": "z"}), ("take s", Unknown, {"name": "s"}),
        ]:
            self.assertEqual(vars(self.refused(desk, kind, line)), fields)
        desk.execute("width 2")
        desk.execute("back")
        self.refused(desk, BadEdge, "width 1")
        self.assertEqual(desk.execute("again"), "1")

    def test_too_many_edges_and_edits(self):
        desk = Desk(Plan("ab", 3, "s", {name: ("s", "t", A) for name in "abcdefghijklmnop"}))
        self.assertEqual(self.refused(desk, TooLong, "edge q s t =a").limit, 16)
        self.assertEqual(self.refused(desk, BadEdge, "edge q s t c4.1").name, "q")
        for at in range(100):
            self.assertEqual(desk.execute("start s"), str(at + 1))
        for line in ("start s", "edge q s t c4.1", "take zz", "take a", "width 12", "edge a s t =a"):
            self.assertEqual(self.refused(desk, Full, line).limit, 100)
        for line in ("width 13", "edge a s t !", "start S"):
            self.refused(desk, NoCommand, line)
        self.assertEqual(desk.execute("back"), "99")

    def test_questions(self):
        desk = Desk(plan_here())
        for line, answer in [
            ("plan", show_plan(plan_here())), ("sound", "yes"), ("alone", "s u"), ("lost more", "ever end/0 end/1 more/0"), ("lost end", "0 none"),
            ("equals s", "none"), ("equals t", "none"), ("equals u", "1=2 1=3 2=3"), ("fixed new 0", "none"), ("fixed new 1", "a"), ("fixed more 1", "b"), ("text new", "aa"),
            ("text new more more end", "aa ab ab bb"),
        ]:
            for _ in range(2):
                self.assertEqual(desk.execute(line), answer, line)
        self.assertEqual(len(desk.draft()), 0)

    def test_numbers_of_losses(self):
        plan, _ = one_line([("any", "ab"), ("text", "ab")], [("copy", 3, 1), ("text", "b")], [("copy", 2, 1), ("copy", 2, 1)])
        desk = Desk(plan)
        self.assertEqual([desk.execute("lost a"), desk.execute("lost b"), desk.execute("lost c")], ["3 b/0 c/0", "2 c/0 c/1", "0 none"])

    def test_unsound_plans(self):
        desk = Desk(plan_here())
        desk.execute("edge new s t ?ab")
        self.assertEqual(desk.execute("sound"), "more/0")
        for line in ("alone", "lost more", "lost zz", "equals t", "equals zz", "fixed new 0", "fixed zz 99"):
            error = self.refused(desk, Unsound, line)
            self.assertEqual((error.edge, error.index), ("more", 0))
        self.assertEqual(vars(self.refused(desk, Short, "text new more")), {"distance": 2, "ahead": 1})
        self.assertEqual(desk.execute("text new"), "a")
        desk.execute("edge end t u c3.3")
        self.assertEqual(desk.execute("sound"), "end/0 end/1 more/0")

    def test_what_questions_refuse(self):
        desk = Desk(plan_here())
        for line, kind, fields in [
            ("lost zz", Unknown, {"name": "zz"}), ("lost s", Unknown, {"name": "s"}), ("lost off", Unreached, {"name": "off"}), ("equals zz", Unknown, {"name": "zz"}),
            ("equals new", Unknown, {"name": "new"}), ("equals x", Unreached, {"name": "x"}), ("fixed zz 0", Unknown, {"name": "zz"}), ("fixed off 0", Unreached, {"name": "off"}),
            ("fixed new 2", NoPlace, {"edge": "new", "index": 2}), ("fixed new 999", NoPlace, {"edge": "new", "index": 999}), ("text end", NoRow, {"at": 0}),
            ("text new new", NoRow, {"at": 1}), ("text new more zz", NoRow, {"at": 2}), ("text off", NoRow, {"at": 0}),
        ]:
            self.assertEqual(vars(self.refused(desk, kind, line)), fields)

    def test_without_edges(self):
        desk = Desk(Plan("ab", 3, "s", {"a": ("s", "t", A)}))
        self.assertEqual(desk.execute("take a"), "1")
        for line in ("plan", "sound", "alone", "lost a", "equals s", "fixed a 0", "text a"):
            self.assertEqual(self.refused(desk, TooLong, line).limit, 0)
        for line in ("plan x", "lost", "fixed a", "text"):
            self.refused(desk, NoCommand, line)
        self.assertEqual([desk.execute("edge b s t =b"), desk.execute("text b")], ["2", "b"])

    def test_no_command(self):
        desk = Desk(plan_here())
        for line in [
            "", " ", "  ", "plan ", " plan", "plan\n", "\nplan", "Plan", "plan plan", "sound yes", "back 1", "again again", "alone s", "undo", "new", "-", "edge",
            "edge z", "edge z s", "edge z s t", "edge z s t ", "edge z s t  =a", "edge z  s t =a", "edge  z s t =a", "edge z s t =a ", "edge Z s t =a", "edge z S t =a",
            "edge z s T =a", "edge abcdefghi s t =a", "edge z s t !", "edge z s t ! !", "edge z s t =c", "edge z s t ?ba", "edge z s t =", "edge z s t c0.1",
            "edge z s t c1.0", "edge z s t c13.1", "edge z s t c1.41", "edge z s t c01.1", "edge z s t c1.0001", "edge z s t c1.40 =a", "edge z s t" + " =a" * 41,
            "edge z s t =a\n", "edge z s t\n=a", "edge z s t a", "edge z s t -", "take", "take ", "take  end", "take end ", "take end end", "take END", "take 1", "take end\n",
            "width", "width ", "width 0", "width 13", "width 03", "width 003", "width 0003", "width 1000", "width -1", "width +3", "width 3.0", "width x", "width 3 3", "width 3 ",
            "width  3", "width three", "start", "start ", "start S", "start s s", "start 1", "start abcdefghi", "lost", "lost END", "lost end end", "lost end 0", "equals",
            "equals t t", "equals 1", "fixed", "fixed end", "fixed end 00", "fixed end 01", "fixed end 0000", "fixed end 1000", "fixed end -1", "fixed end x", "fixed end 0 0",
            "fixed 0 end", "fixed end ", "fixed  end 0", "fixed end 1_0", "text", "text ", "text -", "text new  more", "text new more ", "text New", "text new 1", "text new\n",
            "plan\nplan", "edge z s t =a\nback",
        ]:
            self.refused(desk, NoCommand, line)
        for thing in ODD + [None, ["plan"], ("back",), b"plan", 5, plan_here()]:
            self.refused(desk, NoCommand, thing)
        self.assertEqual(len(desk.draft()), 0)

    def test_forty_signs(self):
        desk = Desk(plan_here())
        self.assertEqual([desk.execute("edge z s t" + " =a" * 40), desk.execute("edge z s t c1.39 ?b ! !"), desk.execute("edge z s t =" + "ab" * 20)], ["1", "2", "3"])
        self.assertEqual(len(desk.draft()["z"][2]), 40)

    def test_names_like_commands(self):
        desk = Desk(Plan("ab", 3, "plan", {"edge": ("plan", "take", A)}))
        self.assertEqual([desk.execute("take edge"), desk.execute("edge back plan again =a"), desk.execute("text back"), desk.execute("start start")], ["1", "2", "a", "3"])
        self.refused(desk, NoRow, "text back")

    def test_choices(self):
        plan, _ = one_line([("any", "b"), ("any", "ab"), ("any", "b")], [("copy", 3, 3)])
        self.assertEqual(Desk(plan).execute("text a b"), "bab bab")


class DraftOf(unittest.TestCase):
    def test_goes_on_by_itself(self):
        desk = Desk(plan_here())
        desk.execute("width 7")
        desk.execute("start t")
        desk.execute("back")
        draft = desk.draft()
        self.assertIs(type(draft), Draft)
        self.assertEqual((draft.log(), draft.window, draft), ([("width", 7)], 7, desk.draft()))
        self.assertEqual(draft.again(), ("start", "t"))
        draft["q"] = ("s", "t", A)
        draft.take("end")
        self.assertEqual((len(desk.draft()), "end" in desk.draft()), (1, True))
        self.assertEqual(desk.execute("again"), "2")
        desk.execute("take more")
        self.assertIn("more", draft)
        self.assertEqual(draft.log()[1:], [("start", "t"), ("put", "q", "s", "t", A), ("take", "end")])


class AtRandom(unittest.TestCase):
    def words(self, things):
        return " ".join(things) or "none"

    def told(self, plan, line):
        """What a line asks, by the functions themselves."""
        command, *rest = line.split(" ")
        if command == "plan":
            return show_plan(plan)
        if command == "sound":
            return self.words(f"{edge}/{index}" for edge, index in unsound(plan)) if unsound(plan) else "yes"
        if command == "alone":
            return self.words(beginnings(plan))
        if command == "lost":
            damage = Damage(plan, lost_marks(plan, rest[0]))
            until = damage.until()
            return ("ever" if until is None else str(until)) + " " + self.words(f"{edge}/{index}" for edge, index in damage.places())
        if command == "equals":
            return self.words(f"{one}={other}" for one, other in Facts(plan).equals(rest[0]))
        if command == "fixed":
            return fixed_sign(plan, rest[0], int(rest[1])) or "none"
        return self.words(texts(plan, rest, [choice[0] for choice in holes(plan, rest)]))

    def test_questions(self):
        chance = random.Random(170)
        seen = {"answer": 0, "error": 0}
        for at in range(100):
            plan = made_plan(chance, filled=at % 3 > 0)
            desk = Desk(plan)
            lines = ["plan", "sound", "alone"] + [f"lost {edge}" for edge in plan.edges()] + [f"equals {state}" for state in plan.states()]
            lines += [f"fixed {edge} {chance.randint(0, 4)}" for edge in plan.edges()]
            lines += ["text " + " ".join(row) for row in list(rows_upto(plan, 2))[1:]]
            for line in lines:
                try:
                    right = self.told(plan, line)
                except WindowError as error:
                    self.assertEqual(vars(raised(self, type(error), desk.execute, line)), vars(error))
                    seen["error"] += 1
                else:
                    answer = desk.execute(line)
                    self.assertEqual((type(answer), answer), (str, right))
                    seen["answer"] += 1
            self.assertEqual(desk.draft(), Draft(plan))
        self.assertGreater(min(seen.values()), 100, seen)

    def test_sixteen_edges(self):
        for kind in ("any", "copies", "fixed"):
            plan = sixteen(kind)
            desk = Desk(plan)
            for line in ["plan", "sound", "alone", "lost o", "equals e", "fixed o 38", "text in a b c", "edge o a b =f"]:
                self.assertNotEqual(desk.execute(line), "")
            self.assertEqual(desk.execute("back"), "0")
            self.assertEqual(desk.execute("plan"), show_plan(plan))


if __name__ == "__main__":
    unittest.main()
