"""Memories of songs that can be gone through place by place, and what Memories refuses."""

import random
import unittest

from reprise.classes import Classes
from reprise.errors import BadLetter, BadStretch, NoPlace
from reprise.memory import Memories
from tests.plain import FAR, GREATEST, plain_firsts, plain_notes, plain_quarrel, some_sayings


def some_memories(chance, length, count, letters):
    """Memories of a song, of rising numbers with gaps between."""
    numbers = sorted(chance.sample(range(1, 90), count))
    longest = chance.choice([1, 2, 5, length])
    rows = []
    for number in numbers:
        many = chance.randint(1, min(length, longest))
        rows.append((number, chance.choice(letters), chance.randint(0, length - many), many))
    return rows


class SmallSongs(unittest.TestCase):
    def hold(self, length, sayings, rows):
        """Hold every answer against the plain joining, and tell the first quarrel."""
        told = plain_firsts(length, sayings)
        notes = plain_notes(told, rows)
        quarrel = plain_quarrel(told, rows)
        memories = Memories(Classes(length, sayings), rows)
        with self.subTest(f"{length} {sayings} {rows}"):
            self.assertEqual([memories.note(place) for place in range(length)],
                             [notes.get(first, "") for first in told])
            self.assertEqual(memories.settled(), len(notes))
            self.assertEqual(memories.free(), len(set(told)) - len(notes))
            self.assertEqual(memories.quarrel(), quarrel)
            text = "".join(notes.get(first, "-") for first in told)
            for at in {0, length // 3, length - 1}:
                for many in {1, length - at, (length - at + 1) // 2}:
                    if many > 0 and at >= 0:
                        self.assertEqual(memories.shown(at, many), text[at:at + many])
        return quarrel

    def test_no_memories(self):
        for length, sayings in [(1, []), (5, []), (9, [(0, 3, 6, False)]), (9, [(0, 0, 9, True)])]:
            self.hold(length, sayings, [])
            memories = Memories(Classes(length, sayings), [])
            self.assertEqual(memories.shown(0, length), "-" * length)
            self.assertIsNone(memories.quarrel())
            self.assertEqual((memories.settled(), memories.note(0)), (0, ""))

    def test_the_empty_song(self):
        memories = Memories(Classes(0, []), [])
        self.assertEqual((memories.settled(), memories.free(), memories.quarrel()), (0, 0, None))

    def test_one_memory(self):
        for at in range(8):
            for many in range(1, 9 - at):
                for sayings in [[], [(0, 4, 4, False)], [(0, 4, 4, True)], [(0, 1, 7, False)]]:
                    self.assertIsNone(self.hold(8, sayings, [(1, "q", at, many)]))

    def test_one_letter_never_quarrels(self):
        chance = random.Random(81)
        for _ in range(60):
            length = chance.randint(1, 30)
            sayings = some_sayings(chance, length, 2)
            self.assertIsNone(self.hold(length, sayings, some_memories(chance, length, 6, "g")))

    def test_songs_at_random(self):
        chance = random.Random(82)
        seen = {True: 0, False: 0}
        for _ in range(700):
            length = chance.randint(1, 60)
            sayings = some_sayings(chance, length, chance.choice([0, 1, 2, 3, 5, 24]))
            rows = some_memories(chance, length, chance.choice([1, 2, 3, 5, 24]), chance.choice(["ab", "aaaab", "abcz"]))
            seen[self.hold(length, sayings, rows) is None] += 1
        self.assertGreater(min(seen.values()), 100)

    def test_memories_far_apart(self):
        chance = random.Random(83)
        for _ in range(300):
            length = chance.randint(20, 60)
            sayings = [(one, other, min(many, 6), turned) for one, other, many, turned in
                       some_sayings(chance, length, chance.randint(1, 4))]
            rows = [(k + 1, letter, at, chance.randint(1, 3)) for k, (letter, at) in
                    enumerate(zip("abca", chance.sample(range(length - 3), 4)))]
            self.hold(length, sayings, rows)


class Told(unittest.TestCase):
    def test_overlapping_memories(self):
        memories = Memories(Classes(8, []), [(2, "c", 0, 4), (5, "d", 2, 4)])
        self.assertEqual(memories.shown(0, 8), "ccccdd--")
        self.assertEqual(memories.quarrel(), (2, 5, 2))
        self.assertEqual((memories.settled(), memories.free()), (6, 2))

    def test_the_least_number_tells_the_note(self):
        memories = Memories(Classes(4, []), [(7, "z", 1, 2), (9, "a", 0, 4)])
        self.assertEqual(memories.shown(0, 4), "azza")

    def test_they_meet_only_through_sayings(self):
        sayings = [(0, 10, 5, False), (10, 20, 5, True)]
        rows = [(1, "a", 2, 1), (2, "b", 22, 1)]
        self.assertEqual(Memories(Classes(25, sayings), rows).quarrel(), (1, 2, 2))
        self.assertIsNone(Memories(Classes(25, sayings[:1]), rows).quarrel())
        self.assertIsNone(Memories(Classes(25, sayings), [(1, "a", 2, 1), (2, "b", 21, 1)]).quarrel())
        self.assertEqual(Memories(Classes(25, sayings), [(1, "a", 11, 1), (2, "b", 22, 2)]).quarrel(), (1, 2, 1))

    def test_the_place_of_a_quarrel_is_the_least_that_is_alike_to_both(self):
        sayings = [(0, 10, 5, False)]
        memories = Memories(Classes(20, sayings), [(3, "a", 12, 6), (4, "b", 13, 4)])
        self.assertEqual(memories.quarrel(), (3, 4, 3))
        memories = Memories(Classes(20, sayings), [(3, "a", 15, 3), (4, "b", 13, 4)])
        self.assertEqual(memories.quarrel(), (3, 4, 15))

    def test_which_quarrel_is_first(self):
        classes = Classes(10, [])
        # The pair of the least greater number, though a lesser number quarrels later.
        rows = [(1, "a", 0, 1), (2, "b", 5, 1), (3, "c", 5, 1), (4, "d", 0, 1)]
        self.assertEqual(Memories(classes, rows).quarrel(), (2, 3, 5))
        # Of the pairs of that number the one of the least lesser number.
        rows = [(1, "a", 7, 1), (2, "b", 3, 1), (3, "c", 3, 5)]
        self.assertEqual(Memories(classes, rows).quarrel(), (1, 3, 7))
        # Of one letter no pair quarrels.
        rows = [(1, "a", 0, 9), (2, "a", 3, 1), (3, "a", 3, 5), (6, "b", 3, 5)]
        self.assertEqual(Memories(classes, rows).quarrel(), (1, 6, 3))

    def test_a_memory_that_tells_no_note_quarrels_too(self):
        rows = [(1, "a", 0, 9), (2, "b", 3, 1), (3, "a", 3, 1)]
        self.assertEqual(Memories(Classes(10, []), rows[1:]).quarrel(), (2, 3, 3))
        self.assertEqual(Memories(Classes(10, []), rows).quarrel(), (1, 2, 3))

    def test_every_letter(self):
        letters = "abcdefghijklmnopqrstuvwxyz"
        memories = Memories(Classes(26, []), [(k + 1, letter, k, 1) for k, letter in enumerate(letters)])
        self.assertEqual(memories.shown(0, 26), letters)
        self.assertIsNone(memories.quarrel())

    def test_great_numbers(self):
        rows = [(10 ** 44, "a", 0, 2), (FAR, "b", 1, 1)]
        self.assertEqual(Memories(Classes(2, []), rows).quarrel(), (10 ** 44, FAR, 1))


class Refusals(unittest.TestCase):
    def refused(self, kind, length, rows):
        with self.subTest((length, rows)):
            with self.assertRaises(kind) as caught:
                Memories(Classes(length, []), rows)
            self.assertIs(type(caught.exception), kind)

    def test_letters(self):
        for letter in ["", "ab", "A", "Z", "aa", " ", "-", "`", "{", "1", "~", "\n", "a ", " a", "a\n", "abc" * 99]:
            self.refused(BadLetter, 5, [(1, letter, 0, 1)])
            self.refused(BadLetter, 5, [(1, "a", 0, 1), (2, letter, 0, 1)])
            self.refused(BadLetter, GREATEST, [(1, letter, 0, GREATEST)])

    def test_stretches(self):
        for length in (0, 1, 5, GREATEST):
            for at, many in [(0, 0), (0, -1), (length, 0), (length, 1), (-1, 1), (-1, 2), (0, length + 1), (1, length),
                             (FAR, 1), (0, FAR), (-FAR, FAR), (FAR, -FAR)]:
                self.refused(BadStretch, length, [(1, "a", at, many)])
                if length > 0:
                    self.refused(BadStretch, length, [(1, "a", 0, 1)] * 23 + [(24, "b", at, many)])

    def test_the_letter_comes_first_memory_by_memory(self):
        self.refused(BadLetter, 5, [(1, "A", 0, 9)])
        self.refused(BadLetter, 0, [(1, "", 0, 0)])
        self.refused(BadStretch, 5, [(1, "a", 0, 9), (2, "A", 0, 1)])
        self.refused(BadLetter, 5, [(1, "A", 0, 1), (2, "a", 0, 9)])
        self.refused(BadStretch, 5, [(1, "a", 0, 1), (2, "a", 5, 1), (3, "ab", 5, 1)])
        self.refused(BadLetter, 5, [(1, "a", 0, 1), (2, "ab", 5, 1), (3, "a", 5, 1)])

    def test_what_is_asked(self):
        for length in (0, 1, 5, GREATEST):
            memories = Memories(Classes(length, []), [(1, "a", length - 1, 1)] if length > 0 else [])
            for place in (-1, -FAR, length, length + 1, FAR):
                with self.assertRaises(NoPlace):
                    memories.note(place)
            for at, many in [(0, 0), (0, -1), (length, 0), (length, 1), (-1, 1), (-1, 2), (length - 1, 2), (0, length + 1),
                             (FAR, 1), (0, FAR), (-FAR, FAR), (FAR, -FAR)]:
                with self.subTest((length, at, many)):
                    with self.assertRaises(BadStretch):
                        memories.shown(at, many)
            if length > 0:
                self.assertEqual(memories.note(length - 1), "a")
                self.assertEqual(memories.shown(length - 1, 1), "a")


if __name__ == "__main__":
    unittest.main()
