import itertools
import random
import unittest

from test_reading import random_plain
from windowcuts.errors import Short
from windowcuts.reading import Reader
from windowcuts.streams import alone, block_texts, in_order, needed, spoilt

FLUSH = ("flush",)


def random_stream(chance, width):
    """Blocks that a reader of the whole stream reads."""
    reader = Reader("abc", width)
    blocks = []
    for _ in range(chance.randint(0, 6)):
        block = []
        for _ in range(chance.randint(0, 4)):
            token = random_plain(chance, width)
            if token[0] != "copy" or token[1] <= len(reader.kept()):
                reader.read(token)
                block.append(token)
        blocks.append(block)
    return blocks


def streams(seed, many):
    chance = random.Random(seed)
    for _ in range(many):
        width = chance.randint(1, 4)
        yield width, random_stream(chance, width)


def read(width, blocks):
    reader = Reader("abc", width)
    return ["".join([reader.read(token) for token in block]) for block in blocks]


def is_read(width, blocks):
    try:
        read(width, blocks)
    except Short:
        return False
    return True


class Streams(unittest.TestCase):
    def test_empty(self):
        self.assertEqual(block_texts("ab", 3, []), [])
        self.assertEqual(in_order("ab", 3, [], []), [])
        self.assertEqual(in_order("ab", 3, [[("text", "a")]], []), [])
        self.assertEqual(alone("ab", 3, []), [])
        self.assertEqual(spoilt("ab", 3, [], []), [])
        self.assertEqual(block_texts("ab", 3, [[], [FLUSH], []]), ["", "", ""])
        self.assertEqual(alone("ab", 3, [[], [FLUSH], []]), [0, 1, 2])
        self.assertEqual(spoilt("ab", 3, [[], [FLUSH], []], [0, 1]), ["", "", ""])
        self.assertEqual([needed("ab", 3, [[], [FLUSH], []], index) for index in range(3)], [[0], [1], [2]])

    def test_block_texts(self):
        blocks = [[("text", "ab"), ("copy", 1, 1)], [], [("copy", 3, 4)], [FLUSH, ("text", "b"), ("copy", 1, 2)]]
        self.assertEqual(block_texts("ab", 3, blocks), ["abb", "", "abba", "bbb"])
        for width, blocks in streams(1, 200):
            self.assertEqual(block_texts("abc", width, blocks), read(width, blocks))

    def test_block_texts_short(self):
        with self.assertRaises(Short) as caught:
            block_texts("ab", 3, [[("text", "ab")], [FLUSH, ("text", "a")], [("copy", 3, 1)], [("copy", 2, 1)]])
        self.assertEqual((caught.exception.distance, caught.exception.ahead), (3, 1))

    def test_alone_by_hand(self):
        blocks = [[("text", "ab")], [("copy", 2, 1)], [("text", "a")], [("copy", 2, 1)], [FLUSH, ("text", "b")]]
        self.assertEqual(alone("ab", 3, blocks), [0, 4])
        self.assertEqual(alone("ab", 3, [[("text", "abb")], [("text", "b")], [("text", "b"), ("copy", 2, 5)]]), [0, 1])
        self.assertEqual(alone("ab", 3, [[("text", "abb")], [("text", "b")], [("copy", 1, 5)], []]), [0, 1, 3])

    def test_alone_from_each_block_on(self):
        for width, blocks in streams(2, 400):
            found = [index for index in range(len(blocks)) if is_read(width, blocks[index:])]
            self.assertEqual(alone("abc", width, blocks), found)

    def test_in_order(self):
        blocks = [[("text", "ab")], [("copy", 2, 3)], [FLUSH, ("text", "b")], []]
        self.assertEqual(in_order("ab", 3, blocks, [2, 0, 0, 1, 1, 3]), ["b", "ab", "ab", "aba", "bab", ""])
        self.assertEqual(in_order("ab", 3, blocks, [3, 3, 2]), ["", "", "b"])
        for order, ahead in [([1], 0), ([2, 1], 1), ([0, 2, 3, 1, 0], 1)]:
            with self.assertRaises(Short) as caught:
                in_order("ab", 3, blocks, order)
            self.assertEqual((caught.exception.distance, caught.exception.ahead), (2, ahead))

    def test_in_order_as_one_reader(self):
        chance = random.Random(8)
        for width, blocks in streams(3, 200):
            order = [chance.randrange(len(blocks)) for _ in range(chance.randint(0, 6))] if blocks else []
            there = [blocks[index] for index in order]
            if is_read(width, there):
                self.assertEqual(in_order("abc", width, blocks, order), read(width, there))
            else:
                self.assertRaises(Short, in_order, "abc", width, blocks, order)

    def test_spoilt_by_hand(self):
        blocks = [[("text", "ab")], [FLUSH, ("text", "b")], [("copy", 1, 2)], [("text", "a"), ("copy", 3, 2)]]
        self.assertEqual(spoilt("ab", 4, blocks, []), ["ab", "b", "bb", "abb"])
        self.assertEqual(spoilt("ab", 4, blocks, [1]), ["ab", "?", "??", "a??"])
        self.assertEqual(spoilt("ab", 4, blocks, [2, 2]), ["ab", "b", "??", "a??"])
        self.assertEqual(spoilt("ab", 4, blocks, [0, 3, 0]), ["??", "b", "bb", "???"])
        self.assertEqual(spoilt("ab", 4, blocks, [3, 1, 2, 0]), ["??", "?", "??", "???"])

    def test_lost_flushes_are_not_noticed(self):
        blocks = [[("text", "ab")], [FLUSH], [("text", "b"), ("copy", 1, 1)]]
        self.assertEqual(spoilt("ab", 4, blocks, [1]), ["ab", "", "bb"])
        long = [[("text", "a" * 40), ("copy", 1, 40)] * 15, [("copy", 1, 1)]]
        self.assertEqual(spoilt("ab", 4, long, [0]), ["?" * 1200, "?"])

    def test_spoilt_sign_by_sign(self):
        chance = random.Random(9)
        for width, blocks in streams(4, 300):
            lost = [index for index in range(len(blocks)) if chance.random() < 0.4] * 2
            chance.shuffle(lost)
            self.assertEqual(spoilt("abc", width, blocks, lost), self.with_losses(width, blocks, lost))

    def with_losses(self, width, blocks, lost):
        whole = read(width, blocks)
        line, texts = "", []
        for index, block in enumerate(blocks):
            begin = len(line)
            if index in lost:
                line = line + "?" * len(whole[index])
            else:
                for token in block:
                    if token[0] == "text":
                        line = line + token[1]
                    for _ in range(token[2] if token[0] == "copy" else 0):
                        line = line + line[-token[1]]
            texts.append(line[begin:])
        return texts

    def test_needed_by_hand(self):
        blocks = [[("text", "ab")], [("copy", 2, 1)], [("copy", 1, 3)], [("text", "a"), ("copy", 3, 1)], [("text", "b")]]
        found = [needed("ab", 3, blocks, index) for index in range(5)]
        self.assertEqual(found, [[0], [0, 1], [0, 1, 2], [0, 1, 2, 3], [4]])

    def test_needed_is_what_must_not_be_lost(self):
        for width, blocks in streams(5, 300):
            texts = read(width, blocks)
            for index in range(len(blocks)):
                found = needed("abc", width, blocks, index)
                self.assertEqual(found, sorted(set(found)))
                others = [at for at in range(len(blocks)) if at not in found]
                self.assertEqual(spoilt("abc", width, blocks, others)[index], texts[index])
                marked = [at for at in range(len(blocks)) if "?" in spoilt("abc", width, blocks, [at])[index]]
                self.assertEqual(found, sorted(set(marked + [index])))

    def test_nothing_passed_is_changed(self):
        for (width, blocks), _ in itertools.product(streams(6, 30), range(2)):
            before = repr(blocks)
            order, lost = list(range(len(blocks))), [0, 0] if blocks else []
            first = [block_texts("abc", width, blocks), alone("abc", width, blocks)]
            first = first + [in_order("abc", width, blocks, order), spoilt("abc", width, blocks, lost)]
            self.assertEqual((repr(blocks), order), (before, list(range(len(blocks)))))
            self.assertEqual(first[0], first[2])
            self.assertTrue(all(type(got) is list for got in first))


if __name__ == "__main__":
    unittest.main()
