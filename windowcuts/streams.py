"""Streams in blocks: read whole, from a block on, in another order, or with losses."""

from windowcuts.reading import Reader
from windowcuts.tokens import size


def block_texts(signs, width, blocks):
    """The texts of the blocks, read in their order."""
    return in_order(signs, width, blocks, list(range(len(blocks))))


def in_order(signs, width, blocks, order):
    """The texts that a new reader writes for the blocks in this order."""
    reader = Reader(signs, width)
    return [reader.read_all(blocks[index]) for index in order]


def alone(signs, width, blocks):
    """The indexes of the blocks from which on a new reader is not refused."""
    found = []
    asked = 0
    for index in reversed(range(len(blocks))):
        asked = _asked_ahead(blocks[index], asked)
        if asked == 0:
            found.append(index)
    return sorted(found)


def _asked_ahead(block, asked):
    """How many signs must be kept ahead of a block, if so many must be kept behind it.

    Behind a flush nothing is ever asked for, as the whole stream is not refused.
    """
    for token in reversed(list(block)):
        asked = max(0, asked - size(token))
        if token[0] == "copy":
            asked = max(asked, token[1])
    return asked


def spoilt(signs, width, blocks, lost):
    """The texts that a reader writes if the blocks with these indexes are lost."""
    gone = set(lost)
    reader = Reader(signs, width)
    texts = []
    for index, block in enumerate(blocks):
        if index in gone:
            texts.append(reader.lost(_block_size(block)))
        else:
            texts.append(reader.read_all(block))
    return texts


def _block_size(block):
    return sum([size(token) for token in block])


def needed(signs, width, blocks, index):
    """The index, and those of the blocks of which this block holds copies."""
    owners, sources = _writers(blocks)
    found = {index: True}
    wanted = {}
    for at in reversed(range(len(owners))):
        if owners[at] == index or at in wanted:
            found[owners[at]] = True
            wanted[sources[at]] = True
    return sorted(found)


def _writers(blocks):
    """For each sign of the stream, its block, and the sign that it copies, or None."""
    owners = []
    sources = []
    for index, block in enumerate(blocks):
        for token in block:
            for _ in range(size(token)):
                sources.append(len(sources) - token[1] if token[0] == "copy" else None)
                owners.append(index)
    return owners, sources
