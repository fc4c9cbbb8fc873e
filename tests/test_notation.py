import random
import unittest

from making import check_new, made_plan, raised
from oddities import ODD
from test_pieces import FLUSH, random_piece
from windowcuts.errors import NoText
from windowcuts.notation import read_piece, read_plan, read_row, show_piece, show_plan, show_row
from windowcuts.pieces import Piece
from windowcuts.plans import Plan

LETTERS = "abcdefghijklmnop"


class Texts(unittest.TestCase):
    def refused(self, at, call, *arguments):
        error = raised(self, NoText, call, *arguments)
        self.assertEqual((type(error.at), error.at), (int, at), repr(arguments)[:80])


class Pieces(Texts):
    def test_by_hand(self):
        for tokens, text in [
            ([("text", "a")], "=a"), ([("text", "abab")], "=abab"), ([("any", "ab")], "?ab"), ([("any", "b")], "?b"), ([("copy", 1, 1)], "c1.1"),
            ([("copy", 12, 40)], "c12.40"), ([("say", 10, 9)], "s10.9"), ([FLUSH, ("text", "a")], "! =a"), ([("text", "a"), FLUSH, FLUSH], "=a ! !"),
            ([("text", "a"), ("text", "b"), ("copy", 2, 1), ("copy", 2, 1)], "=a =b c2.1 c2.1"), ([("text", "a" * 40)], "=" + "a" * 40),
        ]:
            piece = Piece("ab", tokens)
            self.assertEqual(show_piece(piece), text)
            self.assertEqual(read_piece("ab", text), piece)
            self.assertEqual(piece.tokens(), tokens)

    def test_signs(self):
        self.assertEqual(read_piece("abz", "=z ?bz"), Piece("abz", [("text", "z"), ("any", "bz")]))
        self.refused(1, read_piece, "ab", "=z")
        self.refused(1, read_piece, "ab", "?abc")
        self.refused(1, read_piece, "ab", "?ba")
        self.refused(1, read_piece, "ab", "?aa")

    def test_no_strings(self):
        for thing in ODD:
            if type(thing) is not str:
                self.refused(0, read_piece, "ab", thing)

    def test_no_such_lines(self):
        for text in [
            "", " ", "=a ", " =a", "=a  =b", "=", "?", "a", "==a", "=a=b", "=A", "=a?b", "=ab?", "flush", "text", "c", "s", "c1", "c1.", "c.1", "c1.1.1",
            "c1,1", "c0.1", "c1.0", "c13.1", "c1.41", "c01.1", "c1.01", "c1.001", "c001.1", "c0001.1", "c1.0001", "c1000.1", "c1.1000", "c-1.1", "c+1.1",
            "c1.-1", "c 1.1", "c1 .1", "c1. 1", "C1.1", "s0.1", "s13.1", "s1.41", "s1.1s", "x1.1", "!!", "!a", "a!", "! !", "!", "! ! !", "=a !=b", "=a\t=b",
            "=a" + " =a" * 40, "=" + "a" * 41, "c1.40 =a", "s1.20 s1.21", "?ab" + " ?ab" * 40, "c1.1 c1.1 c1.39", "-", "=a -", "c1_0.1", "c1.1_0", "c1.1e1",
            "'=a'", "=a,", "edge a s t =a",
        ]:
            self.refused(1, read_piece, "ab", text)
        for text in ODD:
            if type(text) is str:
                self.refused(1, read_piece, "ab", text)

    def test_numbers(self):
        for distance in range(1, 13):
            for many in (1, 9, 10, 39, 40):
                for letter, kind in (("c", "copy"), ("s", "say")):
                    self.assertEqual(read_piece("ab", f"{letter}{distance}.{many}"), Piece("ab", [(kind, distance, many)]))
        for number in (0, 13, 99, 100, 120, 999, 1000, 10 ** 30):
            self.refused(1, read_piece, "ab", f"c{number}.1")
        for number in (0, 41, 99, 100, 400, 999, 1000, 10 ** 30):
            self.refused(1, read_piece, "ab", f"s1.{number}")

    def test_a_second_line(self):
        for more in ("\n", "\n\n", "\n=a", "\n ", "\n=a\n", "\n-"):
            self.refused(2, read_piece, "ab", "=a" + more)
            self.refused(1, read_piece, "ab", "=a " + more)
            self.refused(1, read_piece, "ab", more + "=a")

    def test_read_back(self):
        chance = random.Random(150)
        for _ in range(300):
            piece = random_piece(chance)
            if len(piece) <= 40:
                text = show_piece(piece)
                self.assertEqual(read_piece("ab", text), piece)
                self.assertEqual((show_piece(read_piece("ab", text)), text.strip(), "  " in text), (text, text, False))
        long = Piece("ab", [FLUSH] * 299 + [("text", "a")])
        self.assertEqual(read_piece("ab", show_piece(long)), long)


class Rows(Texts):
    def test_by_hand(self):
        for names, text in [([], "-"), (["a"], "a"), (["new", "more", "new"], "new more new"), (["abcdefgh"], "abcdefgh"), (["edge", "plan"], "edge plan")]:
            before = list(names)
            self.assertEqual(show_row(names), text)
            self.assertEqual(check_new(self, lambda: read_row(text)), names)
            self.assertEqual(names, before)
        many = ["ab", "c"] * 300
        self.assertEqual(read_row(show_row(many)), many)

    def test_no_strings(self):
        for thing in ODD:
            if type(thing) is not str:
                self.refused(0, read_row, thing)

    def test_no_such_lines(self):
        for text in ["", " ", "a ", " a", "a  b", "A", "a b C", "abcdefghi", "a -", "- a", "--", "- -", "a1", "a,b", "a\tb", "a.b", "-\t", "1", "?", "x" * 100000]:
            self.refused(1, read_row, text)

    def test_a_second_line(self):
        for more in ("\n", "\n\n", "\na", "\n ", "\n-"):
            for first in ("a b", "-"):
                self.refused(2, read_row, first + more)
            self.refused(1, read_row, "a  b" + more)
            self.refused(1, read_row, more + "a")


class Plans(Texts):
    def test_by_hand(self):
        plan = Plan("ab", 3, "s", {
            "b": ("t", "t", Piece("ab", [("copy", 2, 1), FLUSH, ("any", "ab"), ("say", 3, 38)])), "a": ("s", "t", Piece("ab", [("text", "ab")]))})
        text = "plan ab 3 s\nedge a s t =ab\nedge b t t c2.1 ! ?ab s3.38\n"
        self.assertEqual(show_plan(plan), text)
        self.assertEqual(read_plan(text), plan)
        self.assertEqual(read_plan("plan abcdef 12 startabc\nedge plan edge edge =f\n"), Plan("abcdef", 12, "startabc", {
            "plan": ("edge", "edge", Piece("abcdef", [("text", "f")]))}))

    def test_no_strings(self):
        for thing in ODD:
            if type(thing) is not str:
                self.refused(0, read_plan, thing)

    def test_first_lines(self):
        rest = "edge a s t =a\n"
        for line in [
            "", " ", "plan", "plan ab", "plan ab 3", "plan ab 3 s ", " plan ab 3 s", "plan  ab 3 s", "plan ab 3  s", "plan ab 3 s t", "Plan ab 3 s", "plan ba 3 s",
            "plan a 3 s", "plan abcdefg 3 s", "plan aB 3 s", "plan ab 0 s", "plan ab 13 s", "plan ab 03 s", "plan ab 3. s", "plan ab -3 s", "plan ab x s",
            "plan ab 1000 s", "plan ab 003 s", "plan ab 3 S", "plan ab 3 abcdefghi", "plan ab 3 s1", "plan ab 3 -", "edge a s t =a", "plan ab 3 s\t", "plan ab\t3 s",
        ]:
            self.refused(1, read_plan, line + "\n" + rest)
            self.refused(1, read_plan, line + "\n")
            self.refused(1, read_plan, line)
        self.assertEqual(read_plan("plan ab 12 s\n" + rest).width, 12)

    def test_lines_that_lack(self):
        self.refused(1, read_plan, "")
        self.refused(1, read_plan, "plan ab 3 s")
        self.refused(2, read_plan, "plan ab 3 s\n")
        self.refused(2, read_plan, "plan ab 3 s\nedge a s t =a")
        self.refused(1, read_plan, "\n")
        self.refused(1, read_plan, "\nplan ab 3 s\nedge a s t =a\n")
        self.refused(1, read_plan, "edge a s t =a\n")

    def test_the_last_line_feed(self):
        good = "plan ab 3 s\nedge a s t =ab\nedge b t t c2.1\n"
        self.assertEqual(len(read_plan(good)), 2)
        self.refused(3, read_plan, good[:-1])
        for more in ("\n", " ", "\n\n", "edge c t t =a", "-", "plan", " \n", "edge c t t =a\n ", "edge c t t =a\nx"):
            self.refused(5 if more.startswith("edge c") and "\n" in more else 4, read_plan, good + more)
        self.assertEqual(len(read_plan(good + "edge c t t =a\n")), 3)

    def test_edge_lines(self):
        for line in [
            "", " ", "edge", "edge b", "edge b s", "edge b s t", "edge b s t ", "edge b s t  =a", "edge  b s t =a", " edge b s t =a", "edge b s t =a ",
            "edge b s t =c", "edge b s t !", "edge b s t c4.1", "edge b s t s4.1", "edge b s t c3.41", "edge b s t c13.1", "edge b s t =a s12.1",
            "edge b s t c03.1", "edge b s t c3.0001", "Edge b s t =a", "edge B s t =a", "edge b S t =a", "edge b s T =a", "edge b s t T =a", "edge b s =a",
            "edge abcdefghi s t =a", "edge b abcdefghi t =a", "edge b s abcdefghi =a", "edge a s t =a", "edge a s t =b", "plan ab 3 s", "edge b s t ?ba",
            "edge b s t " + "=a " * 40 + "=a", "edge b s t =a\t", "node b s t =a",
        ]:
            self.refused(3, read_plan, f"plan ab 3 s\nedge a s t =a\n{line}\nedge z s t =a\n")
            self.refused(3, read_plan, f"plan ab 3 s\nedge a s t =a\n{line}\n")

    def test_ascending(self):
        for first, second in [("b", "a"), ("b", "b"), ("aa", "a"), ("b", "aa"), ("z", "b")]:
            self.refused(3, read_plan, f"plan ab 3 s\nedge {first} s t =a\nedge {second} s t =a\n")
            self.assertEqual(len(read_plan(f"plan ab 3 s\nedge {second} s t =a\nedge {first}z s t =a\n")), 2)

    def test_the_first_line_that_is_none(self):
        self.refused(2, read_plan, "plan ab 3 s\nedge b s t =c\nedge a s t =a\n")
        self.refused(1, read_plan, "plan ab 0 s\nedge b s t =c\n")
        self.refused(3, read_plan, "plan ab 3 s\nedge b s t =b\nedge a s t =a\nx")

    def test_distances_and_widths(self):
        for width in range(1, 13):
            for distance in range(1, 14):
                for letter in "cs":
                    text = f"plan ab {width} s\nedge a s t {letter}{distance}.1\n"
                    if distance <= width:
                        self.assertEqual(show_plan(read_plan(text)), text)
                    else:
                        self.refused(2, read_plan, text)

    def test_how_many_edges(self):
        lines = [f"edge {name} s t =a\n" for name in LETTERS]
        self.assertEqual(len(read_plan("plan ab 3 s\n" + "".join(lines))), 16)
        self.refused(18, read_plan, "plan ab 3 s\n" + "".join(lines) + "edge q s t =a\n")
        self.refused(18, read_plan, "plan ab 3 s\n" + "".join(lines) + "edge q s t =a\nedge r s t =a\n")
        self.refused(18, read_plan, "plan ab 3 s\n" + "".join(lines) + "edge q s t =a")
        self.refused(18, read_plan, "plan ab 3 s\n" + "".join(lines) + "\n")

    def test_read_back(self):
        chance = random.Random(151)
        for _ in range(150):
            plan = made_plan(chance, **[{}, {"signs": "abc", "width": 5}][chance.randrange(2)])
            text = show_plan(plan)
            self.assertEqual(read_plan(text), plan)
            self.assertEqual(show_plan(read_plan(text)), text)
            self.assertEqual(len(text.split("\n")), len(plan) + 2)
            for edge, line in zip(plan.edges(), text.split("\n")[1:]):
                source, target, piece = plan[edge]
                self.assertEqual(line, f"edge {edge} {source} {target} {show_piece(piece)}")

    def test_changed_texts(self):
        """What is read of a changed text is shown as just that text, so there is one text for each plan."""
        chance = random.Random(152)
        seen = [0, 0]
        for _ in range(1500):
            text = show_plan(made_plan(chance, edges="ab"))
            at = chance.randrange(len(text))
            changed = text[:at] + chance.choice(["", " ", "\n", "a", "1", "0", "!", "=", "b", "c", "2", text[at:at + 5]]) + text[at + chance.choice([0, 1]):]
            try:
                plan = read_plan(changed)
            except NoText as error:
                seen[0] += 1
                self.assertIn(error.at, range(1, len(changed.split("\n")) + 1))
            else:
                seen[1] += 1
                self.assertEqual(show_plan(plan), changed)
        self.assertGreater(min(seen), 100)


if __name__ == "__main__":
    unittest.main()
