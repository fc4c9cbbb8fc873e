"""The examples of the document, as they stand there."""

import doctest
import unittest

STAGE_1 = """
>>> from windowcuts.pieces import Piece
>>> one = Piece("ab", [("text", "a"), ("flush",), ("text", "b"), ("copy", 1, 2)])
>>> [len(one), one.places(), one.flushes(), one.needs()]
[4, [('sign', 'a'), ('sign', 'b'), ('copy', 1), ('copy', 1)], [1], 0]
>>> one.part(1, 3)
Piece('ab', [('flush',), ('text', 'b'), ('copy', 1, 1)])
>>> two = Piece("ab", [("copy", 3, 2), ("any", "ab")])
>>> [two.needs(), (two + two).needs(), 2 * two == two + two, (one + two).needs()]
[3, 3, True, 0]
>>> [Piece("ab", [("flush",), ("copy", 1, 1)]).needs(), [part.tokens() for part in two // 2]]
[None, [[('copy', 3, 2)], [('any', 'ab')]]]
"""

STAGE_2 = """
>>> from windowcuts.reading import Reader
>>> from windowcuts.streams import alone, needed, spoilt
>>> from windowcuts.writers import cheapest, greedy
>>> reader = Reader("ab", 3)
>>> [reader.read(("text", "ab")), reader.lost(1), reader(("copy", 3, 4)), reader.kept()]
['ab', '?', 'ab?a', 'b?a']
>>> blocks = [[("text", "ab")], [("copy", 1, 2)], [("flush",), ("text", "a"), ("copy", 1, 1)]]
>>> [spoilt("ab", 3, blocks, [0]), needed("ab", 3, blocks, 1), alone("ab", 3, blocks)]
[['??', '??', 'aa'], [0, 1], [0, 2]]
>>> [greedy("ab", 4, "aaaab", [2]), cheapest("ab", 4, "ababab", [])]
[[('text', 'aa'), ('flush',), ('text', 'aab')], (4, [('text', 'ab'), ('copy', 2, 4)], [0, 1, 2, 3, 4, 4, 4])]
"""

STAGE_3 = """
>>> from windowcuts.pieces import Piece
>>> from windowcuts.plans import Plan
>>> from windowcuts.rows import holes, rows_upto, stream, texts
>>> begin, again = Piece("ab", [("any", "ab"), ("text", "a")]), Piece("ab", [("copy", 2, 1)])
>>> tail = Piece("ab", [("flush",), ("say", 2, 2), ("copy", 2, 1)])
>>> edges = {"new": ("s", "t", begin), "more": ("t", "t", again), "end": ("t", "u", tail)}
>>> plan = Plan("ab", 3, "s", edges)
>>> [plan.states(), plan.out("t"), list(rows_upto(plan, 2))]
[['s', 't', 'u'], ['end', 'more'], [[], ['new'], ['new', 'end'], ['new', 'more']]]
>>> row = ["new", "more", "end"]
>>> [holes(plan, row), texts(plan, row, ["b"])]
[['ab'], ['ba', 'b', 'aba']]
>>> stream(plan, row, ["b"])
[[('text', 'b'), ('text', 'a')], [('copy', 2, 1)], [('flush',), ('text', 'ab'), ('copy', 2, 1)]]
"""


class Examples(unittest.TestCase):
    def check(self, text):
        test = doctest.DocTestParser().get_doctest(text, {}, "DOC.md", None, 0)
        told = []
        result = doctest.DocTestRunner().run(test, out=told.append)
        self.assertEqual(result.failed, 0, "".join(told))
        self.assertEqual(result.attempted, len(test.examples))

    def test_stage_1(self):
        self.check(STAGE_1)

    def test_stage_2(self):
        self.check(STAGE_2)

    def test_stage_3(self):
        self.check(STAGE_3)


if __name__ == "__main__":
    unittest.main()
