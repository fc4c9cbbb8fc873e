"""Writers: texts pressed into plain tokens, step by step or as cheaply as can be."""

from windowcuts.kinds import is_integer
from windowcuts.tokens import MOST_SIZE


def greedy(signs, width, text, flushes):
    """The tokens of a stream that takes the longest copy at each index."""
    copies = _longest_copies(width, text, flushes)
    steps = []
    at = 0
    while at < len(text):
        many, distance = copies[at]
        if many < 2:
            many, distance = 1, 0
        steps.append((at, many, distance))
        at = at + many
    return _tokens(text, steps, flushes)


def cheapest(signs, width, text, flushes, *, sign_price=1, copy_price=2):
    """The least price of a stream, its tokens, and the least prices of its beginnings."""
    copies = _longest_copies(width, text, flushes)
    numbers = [0]
    leads = [(0, 0)]
    for end in range(1, len(text) + 1):
        price, lead = numbers[end - 1] + sign_price, (end - 1, 0)
        for at in _copy_begins(copies, end):
            if numbers[at] + copy_price < price:
                price, lead = numbers[at] + copy_price, (at, copies[at][1])
        numbers.append(price)
        leads.append(lead)
    return numbers[-1], _tokens(text, _steps_to_end(leads), flushes), numbers


def is_below(signs, width, text, flushes, numbers, *, sign_price=1, copy_price=2):
    """Whether any value is a list of numbers that no stream can be cheaper than."""
    if not isinstance(numbers, list) or len(numbers) != len(text) + 1:
        return False
    if not all([is_integer(number) for number in numbers]) or numbers[0] != 0:
        return False
    copies = _longest_copies(width, text, flushes)
    for end in range(1, len(numbers)):
        # Steps of one sign tell of all longer ones, as they add up.
        if numbers[end] > numbers[end - 1] + sign_price:
            return False
        if any([numbers[end] > numbers[at] + copy_price for at in _copy_begins(copies, end)]):
            return False
    return True


def _longest_copies(width, text, flushes):
    """For each index, the length of the longest copy and its least distance, or zeros."""
    begins = _kept_begins(text, flushes)
    best = [(0, 0)] * len(text)
    for distance in range(1, width + 1):
        # No run goes over a flush, as none begins where nothing is kept.
        run = 0
        for at in reversed(range(len(text))):
            if at - distance >= begins[at] and text[at] == text[at - distance]:
                run = min(run + 1, MOST_SIZE)
            else:
                run = 0
            if run > best[at][0]:
                best[at] = (run, distance)
    return best


def _kept_begins(text, flushes):
    """For each index, the number of the last flush ahead of it, or 0."""
    cuts = set(flushes)
    begins = []
    begin = 0
    for at in range(len(text)):
        if at in cuts:
            begin = at
        begins.append(begin)
    return begins


def _copy_begins(copies, end):
    """The indexes from which one copy can write the signs up to an end."""
    first = max(0, end - MOST_SIZE)
    return [at for at in range(first, end) if at + copies[at][0] >= end]


def _steps_to_end(leads):
    """The steps (index, length, distance) to the end; the distance 0 is that of a text."""
    steps = []
    end = len(leads) - 1
    while end > 0:
        at, distance = leads[end]
        steps.append((at, end - at, distance))
        end = at
    return steps[::-1]


def _tokens(text, steps, flushes):
    cuts = set(flushes)
    tokens = []
    told = []
    for at, many, distance in steps:
        if at in cuts or distance > 0:
            tokens.extend(_text_tokens("".join(told)))
            told = []
        if at in cuts:
            tokens.append(("flush",))
        if distance > 0:
            tokens.append(("copy", distance, many))
        else:
            told.append(text[at])
    tokens.extend(_text_tokens("".join(told)))
    if len(text) in cuts:
        tokens.append(("flush",))
    return tokens


def _text_tokens(text):
    return [("text", text[at:at + MOST_SIZE]) for at in range(0, len(text), MOST_SIZE)]
