"""Memories of songs far too long to be gone through."""

import random
import unittest

from reprise.classes import Classes
from reprise.memory import Memories
from tests.blocks import some_block_songs
from tests.plain import GREATEST, great_songs, some_places, some_saying


def breadth_of(pairs):
    """How many places lie in pairs (low, behind) that may overlap."""
    total, reached = 0, 0
    for low, behind in sorted(pairs):
        total += max(0, behind - max(low, reached))
        reached = max(reached, behind)
    return total


def least_shared(pairs, others):
    """The least place that lies in both, or None."""
    lows = [max(low, its_low) for low, behind in pairs for its_low, its_behind in others
            if max(low, its_low) < min(behind, its_behind)]
    return min(lows, default=None)


def block_quarrel(kept):
    """The first quarrel of memories (number, letter, pairs of firsts)."""
    quarrels = []
    for one, its_letter, others in kept:
        for other, letter, pairs in kept:
            if one < other and letter != its_letter:
                place = least_shared(pairs, others)
                if place is not None:
                    quarrels.append((other, one, place))
    if not quarrels:
        return None
    other, one, place = min(quarrels)
    return one, other, place


def some_memories(chance, length, longest, count):
    rows = []
    for number in range(1, count + 1):
        at, _, many, _ = some_saying(chance, length, longest)
        rows.append((number, chance.choice("aaab"), at, many))
    return rows


class Blocks(unittest.TestCase):
    def hold(self, chance, song, rows):
        """Hold every answer against the walk from block to block, and tell the first quarrel."""
        kept = [(number, letter, song.pieces(at, many)) for number, letter, at, many in rows]
        memories = Memories(Classes(song.length, song.sayings), rows)

        def note(place):
            first = song.first(place)
            letters = [letter for number, letter, pairs in kept if any(low <= first < behind for low, behind in pairs)]
            return letters[0] if letters else ""

        quarrel = block_quarrel(kept)
        with self.subTest(f"{song.length} {song.sayings} {rows}"):
            settled = breadth_of([pair for number, letter, pairs in kept for pair in pairs])
            self.assertEqual(memories.settled(), settled)
            self.assertEqual(memories.free(), song.count() - settled)
            self.assertEqual(memories.quarrel(), quarrel)
            for place in some_places(chance, 0, song.length) + [at for number, letter, at, many in rows]:
                self.assertEqual(memories.note(place), note(place))
            at = chance.choice(rows)[2] if rows else 0
            many = min(400, song.length - at)
            self.assertEqual(memories.shown(at, many), "".join(note(place) or "-" for place in range(at, at + many)))
        return quarrel

    def test_songs_of_blocks(self):
        chance = random.Random(91)
        seen = {True: 0, False: 0}
        for song in some_block_songs(92, 12):
            for longest in (song.length, 2 * song.size, song.size // 3 + 1):
                rows = some_memories(chance, song.length, longest, chance.choice([0, 1, 2, 3, 5, 24]))
                seen[self.hold(chance, song, rows) is None] += 1
        self.assertGreater(min(seen.values()), 40)

    def test_straight_songs_of_blocks(self):
        chance = random.Random(93)
        for song in some_block_songs(94, 6, straight=True):
            self.hold(chance, song, some_memories(chance, song.length, song.size, 6))


class GreatSongs(unittest.TestCase):
    def test_answers_hang_together(self):
        chance = random.Random(95)
        for length, sayings in great_songs():
            classes = Classes(length, sayings)
            rows = some_memories(chance, length, 10 ** chance.randint(1, 40), 24)
            memories = Memories(classes, rows)
            self.assertEqual(memories.settled() + memories.free(), classes.count())
            for number, letter, at, many in rows:
                for place in (at, at + many - 1, at + many // 2):
                    self.assertIn(memories.note(place), [row[1] for row in rows[:number]])
            quarrel = memories.quarrel()
            for number, letter, at, many in rows:
                if quarrel is not None and number < quarrel[1]:
                    self.assertEqual(memories.note(at), letter)
            if quarrel is not None:
                one, other, place = quarrel
                self.assertLess(one, other)
                self.assertEqual(classes.first(place), place)
                self.assertNotEqual(rows[one - 1][1], rows[other - 1][1])
                self.assertEqual(memories.note(place), rows[one - 1][1])
                later = Memories(classes, [rows[other - 1]])
                self.assertEqual(later.note(place), rows[other - 1][1])

    def test_without_sayings(self):
        memories = Memories(Classes(GREATEST, []), [(1, "a", 0, 10 ** 39), (2, "b", 10 ** 39 - 1, 10 ** 39)])
        self.assertEqual(memories.quarrel(), (1, 2, 10 ** 39 - 1))
        self.assertEqual(memories.settled(), 2 * 10 ** 39 - 1)
        self.assertEqual(memories.free(), GREATEST - 2 * 10 ** 39 + 1)
        self.assertEqual(memories.shown(10 ** 39 - 3, 5), "aaabb")
        self.assertEqual(memories.shown(2 * 10 ** 39 - 3, 5), "bb---")
        self.assertEqual(memories.shown(0, 400), "a" * 400)

    def test_they_meet_only_through_sayings(self):
        far = GREATEST - 10 ** 38
        sayings = [(0, 10 ** 39, 10 ** 38, False), (10 ** 39, far, 10 ** 38, True)]
        rows = [(1, "a", 5, 7), (2, "b", GREATEST - 12, 3)]
        self.assertEqual(Memories(Classes(GREATEST, sayings), rows).quarrel(), (1, 2, 9))
        self.assertIsNone(Memories(Classes(GREATEST, sayings[:1]), rows).quarrel())
        self.assertEqual(Memories(Classes(GREATEST, sayings), rows).shown(GREATEST - 14, 11), "--aaaaaaa--")

    def test_a_beat_is_settled_by_a_few_places(self):
        classes = Classes(GREATEST, [(0, 7, GREATEST - 7, False)])
        memories = Memories(classes, [(1, "d", 10 ** 39, 3), (2, "e", 10 ** 39 + 3, 4)])
        self.assertEqual((memories.settled(), memories.free(), memories.quarrel()), (7, 0, None))
        start = 10 ** 39 - 10 ** 39 % 7
        self.assertEqual(sorted(memories.shown(start, 7)), sorted("dddeeee"))
        self.assertEqual(memories.note(GREATEST - 1), memories.note((GREATEST - 1) % 7))
        memories = Memories(classes, [(1, "d", 10 ** 39, 3), (2, "e", 10 ** 39 + 3, 5)])
        self.assertEqual(memories.quarrel(), (1, 2, 10 ** 39 % 7))


if __name__ == "__main__":
    unittest.main()
