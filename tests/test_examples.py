"""The examples of the document, as they stand there."""

import doctest
import unittest

STAGE_1 = """
>>> from windowcuts.pieces import Piece
>>> one = Piece("ab", [("text", "a"), ("flush",), ("text", "b"), ("copy", 1, 2)])
>>> [len(one), one.places(), one.flushes(), one.needs()]
[4, [('sign', 'a'), ('sign', 'b'), ('copy', 1), ('copy', 1)], [1], 0]
>>> one.part(1, 3)
Piece('ab', [('flush',), ('text', 'b'), ('copy', 1, 1)])
>>> two = Piece("ab", [("copy", 3, 2), ("any", "ab")])
>>> [two.needs(), (two + two).needs(), 2 * two == two + two, (one + two).needs()]
[3, 3, True, 0]
>>> [Piece("ab", [("flush",), ("copy", 1, 1)]).needs(), [part.tokens() for part in two // 2]]
[None, [[('copy', 3, 2)], [('any', 'ab')]]]
"""

STAGE_2 = """
>>> from windowcuts.reading import Reader
>>> from windowcuts.streams import alone, needed, spoilt
>>> from windowcuts.writers import cheapest, greedy
>>> reader = Reader("ab", 3)
>>> [reader.read(("text", "ab")), reader.lost(1), reader(("copy", 3, 4)), reader.kept()]
['ab', '?', 'ab?a', 'b?a']
>>> blocks = [[("text", "ab")], [("copy", 1, 2)], [("flush",), ("text", "a"), ("copy", 1, 1)]]
>>> [spoilt("ab", 3, blocks, [0]), needed("ab", 3, blocks, 1), alone("ab", 3, blocks)]
[['??', '??', 'aa'], [0, 1], [0, 2]]
>>> [greedy("ab", 4, "aaaab", [2]), cheapest("ab", 4, "ababab", [])]
[[('text', 'aa'), ('flush',), ('text', 'aab')], (4, [('text', 'ab'), ('copy', 2, 4)], [0, 1, 2, 3, 4, 4, 4])]
"""

STAGE_3 = """
>>> from windowcuts.pieces import Piece
>>> from windowcuts.plans import Plan
>>> from windowcuts.rows import holes, rows_upto, stream, texts
>>> begin, again = Piece("ab", [("any", "ab"), ("text", "a")]), Piece("ab", [("copy", 2, 1)])
>>> tail = Piece("ab", [("flush",), ("say", 2, 2), ("copy", 2, 1)])
>>> edges = {"new": ("s", "t", begin), "more": ("t", "t", again), "end": ("t", "u", tail)}
>>> plan = Plan("ab", 3, "s", edges)
>>> [plan.states(), plan.out("t"), list(rows_upto(plan, 2))]
[['s', 't', 'u'], ['end', 'more'], [[], ['new'], ['new', 'end'], ['new', 'more']]]
>>> row = ["new", "more", "end"]
>>> [holes(plan, row), texts(plan, row, ["b"])]
[['ab'], ['ba', 'b', 'aba']]
>>> stream(plan, row, ["b"])
[[('text', 'b'), ('text', 'a')], [('copy', 2, 1)], [('flush',), ('text', 'ab'), ('copy', 2, 1)]]
"""

STAGE_4 = STAGE_3 + """
>>> from windowcuts.counts import least_kept, refused_row, unsound
>>> from windowcuts.frames import Frame
>>> from windowcuts.origins import chain
>>> from windowcuts.roots import reader_roots, text_roots
>>> [text_roots(tail), reader_roots(tail)]
[[('slot', 2), ('slot', 1), ('slot', 2)], [('place', 0), ('place', 1), ('place', 0)]]
>>> [(Frame(3) << again).roots(), (Frame(3) << begin << again)[2]]
[[('slot', 2), ('slot', 1), ('slot', 2)], ('sign', 'a')]
>>> [chain(plan, row, 2), chain(plan, row, 5), least_kept(plan), unsound(plan)]
[[(1, 0), (0, 0)], [(2, 2), (2, 0)], {'s': 0, 't': 2, 'u': 3}, []]
>>> short = plan.changed("skip", "s", "t", Piece("ab", [("text", "b")]))
>>> [unsound(short), refused_row(short, "more", 0)]
[[('end', 0), ('more', 0)], ['skip', 'more']]
"""

STAGE_5 = """
>>> from windowcuts.claims import all_claims, are_claims
>>> from windowcuts.facts import Facts
>>> from windowcuts.pieces import Piece
>>> from windowcuts.plans import Plan
>>> twins = {"a": ("s", "t", Piece("ab", [("text", "aa")])), "b": ("s", "t", Piece("ab", [("text", "bb")]))}
>>> twins["c"] = ("t", "t", Piece("ab", [("copy", 2, 1)]))
>>> plan = Plan("ab", 3, "s", twins)
>>> facts = Facts(plan)
>>> [facts.signs_in("t", 1), facts.equals("t"), facts.differ_row("t", 1, 2), facts.value_row("t", 3, "b")]
['ab', [(1, 2), (1, 3), (2, 3)], None, (['b', 'c'], [])]
>>> wide = plan.changed("d", "t", "t", Piece("ab", [("any", "b")]))
>>> [Facts(wide).differ_row("t", 2, 1), Facts(wide).equals("t"), Facts(wide).unlike("t", ("hole", 0), ("slot", 1), ["b"])]
[(['a', 'd'], ['b']), [], True]
>>> values, equals = all_claims(plan)
>>> [are_claims(plan, values, equals), are_claims(wide, values, equals), are_claims(wide, values, [])]
[True, False, True]
"""

STAGE_6 = """
>>> from windowcuts.pieces import Piece
>>> from windowcuts.plans import Plan
>>> from windowcuts.alone import beginnings, settles
>>> from windowcuts.damage import Damage, lost_marks
>>> from windowcuts.harms import harm
>>> begin, more = Piece("ab", [("any", "ab"), ("text", "a")]), Piece("ab", [("copy", 2, 1), ("text", "b")])
>>> tail = Piece("ab", [("copy", 1, 1), ("flush",), ("text", "ab")])
>>> edges = {"new": ("s", "t", begin), "more": ("t", "t", more), "end": ("t", "u", tail)}
>>> plan = Plan("ab", 3, "s", edges)
>>> lost = Damage(plan, lost_marks(plan, "new"))
>>> [lost.slots(), lost.places(), lost.until(), lost.ring() is None]
[[('t', 1), ('t', 2), ('t', 3), ('u', 3)], [('end', 0), ('more', 0)], None, False]
>>> once = Damage(plan, [("t", 1)])
>>> [once.slots(), once.until(), once.numbers(), once.longest()]
[[('t', 1), ('t', 3), ('u', 3)], 1, [('t', 1, 1), ('t', 3, 0), ('u', 3, 0)], (('t', 1), ['end'], 0)]
>>> [beginnings(plan), settles(plan, "t"), harm(plan, "t", ["more"], []), harm(plan, "t", ["more"], [0, 0])]
[['s', 'u'], None, ('wrong', [('end', 0)]), ('right',)]
"""

STAGE_7 = """
>>> from windowcuts.pieces import Piece
>>> from windowcuts.plans import Plan
>>> from windowcuts.likes import compare
>>> from windowcuts.pressing import beginning_prices, fixed_sign, pressed, right_distances
>>> echo = Piece("ab", [("copy", 2, 2), ("text", "ab"), ("copy", 2, 2)])
>>> plan = Plan("ab", 4, "s", {"in": ("s", "t", Piece("ab", [("text", "ab")])), "on": ("t", "t", echo)})
>>> [fixed_sign(plan, "on", 0), right_distances(plan, "on", 0), right_distances(plan, "on", 2)]
['a', [2], [2, 4]]
>>> [beginning_prices(plan, "on"), pressed(plan)[1], pressed(plan)[0]["on"][2].tokens()]
[[0, 1, 2, 2, 2, 2, 2], {'in': 2, 'on': 2}, [('copy', 2, 6)]]
>>> [compare(plan, pressed(plan)[0]), compare(plan, plan.changed("on", "t", "t", Piece("ab", [("any", "ab")])))]
[('alike', [('s', 's'), ('t', 't')]), ('holes', ['in', 'on'])]
>>> compare(plan, plan.changed("on", "t", "t", Piece("ab", [("text", "abaab")])))
('texts', ['in', 'on'], [])
"""

STAGE_8 = """
>>> from windowcuts.pieces import Piece
>>> from windowcuts.plans import Plan
>>> from windowcuts.damage import Damage, lost_marks
>>> from windowcuts.flushing import cheapest_flushes, flushed, worst_loss
>>> from windowcuts.live import live, live_path
>>> from windowcuts.spelling import cheapest_spelling, spelled
>>> begin, more = Piece("ab", [("any", "ab"), ("text", "a")]), Piece("ab", [("copy", 2, 1), ("text", "b")])
>>> edges = {"new": ("s", "t", begin), "more": ("t", "t", more), "end": ("t", "u", Piece("ab", [("copy", 1, 2)]))}
>>> plan = Plan("ab", 3, "s", edges)
>>> [live(plan, "t"), live_path(plan, "t", 2), worst_loss(plan)]
[[1, 2], (['more'], 0), ('more', None)]
>>> cheapest_spelling(plan, [("t", 2)], [("more", 0)], {"more": 3})[:2]
(3, [('more', 0)])
>>> quiet = spelled(plan, [("more", 0)])
>>> [quiet["more"][2].tokens(), worst_loss(quiet), cheapest_flushes(plan, [("t", 5)], 0)]
[[('say', 2, 1), ('text', 'b')], ('more', 2), (5, (0,))]
>>> flushed(plan, ["t"])["end"][2].tokens()
[('flush',), ('say', 1, 1), ('copy', 1, 1)]
"""

STAGE_9 = STAGE_8 + """
>>> from windowcuts.desk import Desk
>>> from windowcuts.draft import Draft
>>> from windowcuts.notation import read_row, show_plan
>>> show_plan(plan)
'plan ab 3 s\\nedge end t u c1.2\\nedge more t t c2.1 =b\\nedge new s t ?ab =a\\n'
>>> desk = Desk(plan)
>>> [desk.execute("lost more"), desk.execute("equals t"), desk.execute("text new more"), desk.execute("alone")]
['ever end/0 end/1 more/0', 'none', 'aa ab', 's u']
>>> [desk.execute("take end"), desk.execute("edge end t u s1.1"), desk.execute("back"), read_row("new more")]
['1', '2', '1', ['new', 'more']]
"""


class Examples(unittest.TestCase):
    def check(self, text):
        test = doctest.DocTestParser().get_doctest(text, {}, "DOC.md", None, 0)
        told = []
        result = doctest.DocTestRunner().run(test, out=told.append)
        self.assertEqual(result.failed, 0, "".join(told))
        self.assertEqual(result.attempted, len(test.examples))

    def test_stage_1(self):
        self.check(STAGE_1)

    def test_stage_2(self):
        self.check(STAGE_2)

    def test_stage_3(self):
        self.check(STAGE_3)

    def test_stage_4(self):
        self.check(STAGE_4)

    def test_stage_5(self):
        self.check(STAGE_5)

    def test_stage_6(self):
        self.check(STAGE_6)

    def test_stage_7(self):
        self.check(STAGE_7)

    def test_stage_8(self):
        self.check(STAGE_8)

    def test_stage_9(self):
        self.check(STAGE_9)


if __name__ == "__main__":
    unittest.main()
