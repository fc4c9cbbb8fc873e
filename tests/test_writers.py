import inspect
import itertools
import random
import unittest

from oddities import ODD
from windowcuts.reading import Reader
from windowcuts.tokens import is_plain, size
from windowcuts.writers import cheapest, greedy, is_below

FLUSH = ("flush",)


def random_case(chance, most=12):
    width = chance.randint(1, 5)
    text = "".join([chance.choice("aab") for _ in range(chance.randint(0, most))])
    flushes = [chance.randint(0, len(text)) for _ in range(chance.choice([0, 0, 1, 2, 4]))]
    return width, text, flushes


def copy_at(width, text, flushes, at, distance):
    """How many signs a copy of this distance writes rightly, told sign by sign."""
    begin = max([0] + [flush for flush in flushes if flush <= at])
    if distance > min(width, at - begin):
        return 0
    many = 0
    while at + many < len(text) and many < 40 and text[at + many] == text[at + many - distance]:
        if many > 0 and at + many in flushes:
            break
        many += 1
    return many


def plainly_greedy(width, text, flushes):
    tokens, at = [], 0
    while at <= len(text):
        if at in flushes:
            tokens.append(FLUSH)
        if at == len(text):
            return tokens
        many, far = max((copy_at(width, text, flushes, at, far), -far) for far in range(1, width + 1))
        if many >= 2:
            tokens.append(("copy", -far, many))
            at += many
        else:
            if tokens and tokens[-1][0] == "text" and size(tokens[-1]) < 40:
                tokens[-1] = ("text", tokens[-1][1] + text[at])
            else:
                tokens.append(("text", text[at]))
            at += 1


def least(width, text, flushes, sign_price, copy_price):
    numbers = [0] + [None] * len(text)
    for at in range(len(text)):
        ends = [(at + 1, sign_price)]
        for far in range(1, width + 1):
            ends += [(at + n, copy_price) for n in range(1, copy_at(width, text, flushes, at, far) + 1)]
        for end, price in ends:
            if numbers[end] is None or numbers[at] + price < numbers[end]:
                numbers[end] = numbers[at] + price
    return numbers


def flush_numbers(tokens):
    written, numbers = 0, []
    for token in tokens:
        written += size(token)
        if token == FLUSH:
            numbers.append(written)
    return numbers


class Greedy(unittest.TestCase):
    def check(self, width, text, flushes, tokens):
        self.assertEqual(greedy("abcdef", width, text, flushes), tokens)

    def test_by_hand(self):
        self.check(4, "", [], [])
        self.check(4, "", [0, 0], [FLUSH])
        self.check(4, "a", [], [("text", "a")])
        self.check(4, "aa", [], [("text", "aa")])
        self.check(4, "aaa", [], [("text", "a"), ("copy", 1, 2)])
        self.check(4, "abab", [], [("text", "ab"), ("copy", 2, 2)])
        self.check(1, "abab", [], [("text", "abab")])
        self.check(4, "abcabcab", [], [("text", "abc"), ("copy", 3, 5)])
        self.check(2, "abcabcab", [], [("text", "abcabcab")])

    def test_longest_and_then_nearest(self):
        self.check(12, "aabcaab", [], [("text", "aabc"), ("copy", 4, 3)])
        self.check(12, "abcabab", [], [("text", "abc"), ("copy", 3, 2), ("copy", 2, 2)])
        self.check(12, "abcabdabc", [], [("text", "abc"), ("copy", 3, 2), ("text", "d"), ("copy", 6, 3)])
        self.check(12, "abcabdab", [], [("text", "abc"), ("copy", 3, 2), ("text", "d"), ("copy", 3, 2)])

    def test_forty_signs(self):
        self.check(1, "a" * 41, [], [("text", "a"), ("copy", 1, 40)])
        self.check(1, "a" * 42, [], [("text", "a"), ("copy", 1, 40), ("text", "a")])
        self.check(1, "a" * 83, [], [("text", "a"), ("copy", 1, 40), ("copy", 1, 40), ("copy", 1, 2)])

    def test_long_texts(self):
        text = "".join(["abcdef"[n % 6] for n in range(95)])
        self.check(5, text, [], [("text", text[:40]), ("text", text[40:80]), ("text", text[80:])])
        self.check(5, text[:80], [], [("text", text[:40]), ("text", text[40:80])])
        self.check(5, text, [50], [("text", text[:40]), ("text", text[40:50]), FLUSH, ("text", text[50:90]),
                                   ("text", text[90:])])

    def test_flushes(self):
        self.check(4, "aaaa", [0], [FLUSH, ("text", "a"), ("copy", 1, 3)])
        self.check(4, "aaaa", [4], [("text", "a"), ("copy", 1, 3), FLUSH])
        self.check(4, "aaaaaa", [3, 3, 0, 6, 0], [FLUSH, ("text", "a"), ("copy", 1, 2), FLUSH, ("text", "a"),
                                                  ("copy", 1, 2), FLUSH])
        self.check(4, "aaaaaa", [5, 2], [("text", "aa"), FLUSH, ("text", "a"), ("copy", 1, 2), FLUSH, ("text", "a")])
        self.check(4, "aaa", [1, 2, 3, 0], [FLUSH, ("text", "a"), FLUSH, ("text", "a"), FLUSH, ("text", "a"), FLUSH])

    def test_against_sign_by_sign(self):
        chance = random.Random(11)
        for most in [12] * 400 + [120] * 60:
            width, text, flushes = random_case(chance, most)
            before = list(flushes)
            tokens = greedy("ab", width, text, flushes)
            self.assertEqual(tokens, plainly_greedy(width, text, flushes))
            self.assertEqual(flushes, before)
            self.assertEqual(Reader("ab", width).read_all(tokens), text)
            self.assertEqual(flush_numbers(tokens), sorted(set(flushes)))


class Cheapest(unittest.TestCase):
    def check(self, width, text, flushes, sign_price, copy_price):
        prices = {"sign_price": sign_price, "copy_price": copy_price}
        price, tokens, numbers = cheapest("ab", width, text, flushes, **prices)
        self.assertEqual(numbers, least(width, text, flushes, sign_price, copy_price))
        self.assertEqual(price, numbers[-1])
        paid = [copy_price if token[0] == "copy" else sign_price * size(token) for token in tokens]
        self.assertEqual(sum(paid), price)
        self.assertTrue(all(is_plain("ab", token) for token in tokens))
        self.assertEqual(Reader("ab", width).read_all(tokens), text)
        self.assertEqual(flush_numbers(tokens), sorted(set(flushes)))
        self.assertIs(is_below("ab", width, text, flushes, numbers, **prices), True)

    def test_by_hand(self):
        self.assertEqual(cheapest("ab", 3, "", []), (0, [], [0]))
        self.assertEqual(cheapest("ab", 3, "", [0]), (0, [FLUSH], [0]))
        self.assertEqual(cheapest("ab", 3, "a", [1, 0]), (1, [FLUSH, ("text", "a"), FLUSH], [0, 1]))
        self.assertEqual(cheapest("ab", 3, "aaaa", []), (3, [("text", "a"), ("copy", 1, 3)], [0, 1, 2, 3, 3]))
        self.assertEqual(cheapest("ab", 3, "aaaa", [3])[0], 4)

    def test_copies_of_one_sign(self):
        got = cheapest("ab", 2, "aab", [], sign_price=5, copy_price=1)
        self.assertEqual(got, (11, [("text", "a"), ("copy", 1, 1), ("text", "b")], [0, 5, 6, 11]))
        self.assertEqual(cheapest("ab", 2, "aba", [], sign_price=5, copy_price=4)[2], [0, 5, 10, 14])

    def test_prices_left_out(self):
        for text in ["aaaaabbbb", "abababab"]:
            both = cheapest("ab", 4, text, [], sign_price=1, copy_price=2)
            self.assertEqual(cheapest("ab", 4, text, []), both)
            self.assertEqual(cheapest("ab", 4, text, [], sign_price=1), both)
            self.assertEqual(cheapest("ab", 4, text, [], copy_price=2), both)
        for function in (cheapest, is_below):
            named = inspect.signature(function).parameters
            for name, default in [("sign_price", 1), ("copy_price", 2)]:
                self.assertEqual((named[name].kind, named[name].default), (inspect.Parameter.KEYWORD_ONLY, default))

    def test_great_prices_and_none(self):
        great = 10 ** 18
        for sign_price, copy_price in itertools.product([0, 1, 2, 7, great], repeat=2):
            for width, text, flushes in [(2, "ababaabb", [3]), (1, "a" * 90, []), (3, "abbabbaba" * 5, [40, 0])]:
                self.check(width, text, flushes, sign_price, copy_price)

    def test_copies_of_forty_signs(self):
        self.assertEqual(cheapest("ab", 1, "a" * 41, [])[0], 3)
        self.assertEqual(cheapest("ab", 1, "a" * 42, [])[0], 4)
        self.assertEqual(cheapest("ab", 1, "a" * 81, [], sign_price=9, copy_price=1)[0], 11)
        self.check(1, "ab" * 50, [], 1, 2)

    def test_against_all_ways(self):
        chance = random.Random(12)
        for most in [10] * 300 + [100] * 30:
            width, text, flushes = random_case(chance, most)
            self.check(width, text, flushes, chance.randint(0, 4), chance.randint(0, 6))

    def test_kinds(self):
        got = cheapest("ab", 2, "ab", [])
        self.assertEqual([type(part) for part in (got, *got)], [tuple, int, list, list])


class Below(unittest.TestCase):
    def plainly(self, width, text, flushes, numbers, sign_price, copy_price):
        if numbers[0] != 0:
            return False
        for one, other in itertools.combinations(range(len(numbers)), 2):
            if numbers[other] > numbers[one] + (other - one) * sign_price:
                return False
            reach = max(copy_at(width, text, flushes, one, far) for far in range(1, width + 1))
            if reach >= other - one and numbers[other] > numbers[one] + copy_price:
                return False
        return True

    def test_against_all_pairs(self):
        chance = random.Random(13)
        seen = {True: 0, False: 0}
        for _ in range(1500):
            width, text, flushes = random_case(chance, 7)
            prices = {"sign_price": chance.randint(0, 3), "copy_price": chance.randint(0, 4)}
            numbers = cheapest("ab", width, text, flushes, **prices)[2]
            for _ in range(chance.randint(0, 2)):
                numbers[chance.randrange(len(numbers))] += chance.choice([-2, -1, 1])
            holds = self.plainly(width, text, flushes, numbers, **prices)
            seen[holds] += 1
            before = list(numbers)
            self.assertIs(is_below("ab", width, text, flushes, numbers, **prices), holds)
            self.assertEqual(numbers, before)
        self.assertTrue(min(seen.values()) > 200, seen)

    def test_by_hand(self):
        self.assertIs(is_below("ab", 2, "", [], [0]), True)
        self.assertIs(is_below("ab", 2, "", [], [1]), False)
        self.assertIs(is_below("ab", 2, "", [], []), False)
        self.assertIs(is_below("ab", 2, "ab", [], [0, 1, 2]), True)
        self.assertIs(is_below("ab", 2, "ab", [], [0, 1, 3]), False)
        self.assertIs(is_below("ab", 2, "ab", [], [0, -5, -10 ** 30]), True)
        self.assertIs(is_below("ab", 2, "ab", [], [0, 1]), False)
        self.assertIs(is_below("ab", 2, "ab", [], [0, 1, 2, 3]), False)
        self.assertIs(is_below("ab", 2, "aaaa", [], [0, 1, 2, 3, 4]), False)
        self.assertIs(is_below("ab", 2, "aaaa", [2], [0, 1, 2, 3, 4]), True)
        self.assertIs(is_below("ab", 2, "aa", [], [0, 3, 6], sign_price=3), False)
        self.assertIs(is_below("ab", 2, "aa", [], [0, 3, 6], sign_price=3, copy_price=3), True)

    def test_other_values(self):
        for thing in ODD:
            self.assertIs(is_below("ab", 2, "ab", [], thing), False)
            self.assertIs(is_below("ab", 2, "ab", [], [0, 1, thing]), type(thing) is int and thing <= 2)
            self.assertIs(is_below("ab", 2, "ab", [], [thing, 0, 0]), type(thing) is int and thing == 0)
        self.assertIs(is_below("ab", 2, "ab", [], (0, 1, 2)), False)
        self.assertIs(is_below("ab", 2, "ab", [], [False, 1, 2]), False)
        self.assertIs(is_below("ab", 2, "ab", [], [0, True, 2]), False)


if __name__ == "__main__":
    unittest.main()
