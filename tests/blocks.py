"""Great songs of blocks: what is so of them is told by a walk from block to block."""

import random

from tests.plain import block_firsts, some_sayings

SIZES = (1, 2, 3, 10, 11, 10 ** 20, 10 ** 38 + 1, 2 * 10 ** 38)


class BlockSong:
    """A song of blocks of one size, with sayings of whole blocks."""

    def __init__(self, blocks, sayings, size):
        self.size = size
        self.length = blocks * size
        self.sayings = [(one * size, other * size, many * size, turned)
                        for one, other, many, turned in sayings]
        self.told, self.mirrors = block_firsts(blocks, sayings)

    def first(self, place):
        block, i = divmod(place, self.size)
        root, way = self.told[block]
        there = self.size - 1 - i if way else i
        if root in self.mirrors:
            there = min(there, self.size - 1 - there)
        return root * self.size + there

    def count(self):
        roots = {root for root, way in self.told.values()}
        return sum((self.size + 1) // 2 if root in self.mirrors else self.size for root in roots)

    def marks(self, low, behind):
        """Where places begin anew from which on firsts rise, or fall, by one each."""
        out = {low}
        for block in range(low // self.size, (behind - 1) // self.size + 1):
            out |= {block * self.size, block * self.size + (self.size + 1) // 2}
        return sorted(mark for mark in out if low <= mark < behind)

    def parted(self, one, other, many, turned):
        """Where two stretches part, found piece by piece."""
        begins = {mark - one for mark in self.marks(one, one + many)}
        if turned:
            begins |= {other + many - mark for mark in self.marks(other, other + many)} - {many}
        else:
            begins |= {mark - other for mark in self.marks(other, other + many)}
        rows = sorted(begins)
        for begin, behind in zip(rows, rows[1:] + [many]):
            # Both firsts go by ones there: who agree twice agree all along.
            for i in range(begin, min(begin + 2, behind)):
                to = other + many - 1 - i if turned else other + i
                if self.first(one + i) != self.first(to):
                    return i
        return None

    def pieces(self, at, many):
        """Pairs (low, behind) of the firsts of a stretch's places."""
        rows = self.marks(at, at + many)
        out = []
        for low, behind in zip(rows, rows[1:] + [at + many]):
            ends = sorted([self.first(low), self.first(behind - 1)])
            out.append((ends[0], ends[1] + 1))
        return out


def some_block_songs(seed, count, straight=False):
    """Block songs, small ones and great ones."""
    chance = random.Random(seed)
    for _ in range(count):
        blocks = chance.randint(1, 40)
        sayings = some_sayings(chance, blocks, chance.choice([1, 2, 3, 5, 24]))
        if straight:
            sayings = [(one, other, many, False) for one, other, many, _ in sayings]
        for size in SIZES:
            yield BlockSong(blocks, sayings, size)
