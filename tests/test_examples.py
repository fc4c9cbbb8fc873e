"""The examples of the document, as they stand there."""

import doctest
import unittest

STAGE_1 = """
>>> from windowcuts.pieces import Piece
>>> one = Piece("ab", [("text", "a"), ("flush",), ("text", "b"), ("copy", 1, 2)])
>>> [len(one), one.places(), one.flushes(), one.needs()]
[4, [('sign', 'a'), ('sign', 'b'), ('copy', 1), ('copy', 1)], [1], 0]
>>> one.part(1, 3)
Piece('ab', [('flush',), ('text', 'b'), ('copy', 1, 1)])
>>> two = Piece("ab", [("copy", 3, 2), ("any", "ab")])
>>> [two.needs(), (two + two).needs(), 2 * two == two + two, (one + two).needs()]
[3, 3, True, 0]
>>> [Piece("ab", [("flush",), ("copy", 1, 1)]).needs(), [part.tokens() for part in two // 2]]
[None, [[('copy', 3, 2)], [('any', 'ab')]]]
"""


class Examples(unittest.TestCase):
    def check(self, text):
        test = doctest.DocTestParser().get_doctest(text, {}, "DOC.md", None, 0)
        told = []
        result = doctest.DocTestRunner().run(test, out=told.append)
        self.assertEqual(result.failed, 0, "".join(told))
        self.assertEqual(result.attempted, len(test.examples))

    def test_stage_1(self):
        self.check(STAGE_1)


if __name__ == "__main__":
    unittest.main()
