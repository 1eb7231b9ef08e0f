"""Stretches alike, beats and mirrors of songs that can be gone through place by place."""

import random
import unittest

from reprise.likes import alike, beat, mirror, parted
from tests.plain import plain_firsts, plain_parted, some_saying, some_sayings


def all_stretches(length):
    return [(at, many) for many in range(1, length + 1) for at in range(length - many + 1)]


def all_asked(length):
    return [(one, other, many, turned) for one, many in all_stretches(length)
            for other in range(length - many + 1) for turned in (False, True)]


class SmallSongs(unittest.TestCase):
    def hold(self, length, sayings, asked, stretches):
        """Hold the answers against the plain joining."""
        told = plain_firsts(length, sayings)
        for one, other, many, turned in asked:
            with self.subTest(f"{length} {sayings} {one} {other} {many} {turned}"):
                where = plain_parted(told, (one, other, many, turned))
                self.assertEqual(parted(length, sayings, one, other, many, turned), where)
                self.assertIs(alike(length, sayings, one, other, many, turned), where is None)
        for at, many in stretches:
            notes = told[at:at + many]
            with self.subTest(f"{length} {sayings} {at} {many}"):
                self.assertIs(mirror(length, sayings, at, many), notes == notes[::-1])
                for step in range(1, many + 3):
                    kept = all(notes[i] == notes[i + step] for i in range(many - step))
                    self.assertIs(beat(length, sayings, at, many, step), kept)

    def test_the_shortest_songs(self):
        for length in (1, 2, 3, 4):
            self.hold(length, [], all_asked(length), all_stretches(length))
            for saying in all_asked(length):
                self.hold(length, [saying], all_asked(length), all_stretches(length))

    def test_songs_at_random(self):
        chance = random.Random(41)
        for _ in range(250):
            length = chance.randint(1, 50)
            sayings = some_sayings(chance, length, chance.choice([0, 1, 2, 3, 5, 8, 24]))
            asked = [some_saying(chance, length, longest) for longest in (1, 4, 4, length, length)]
            asked += [(one, other, many, not turned) for one, other, many, turned in sayings[:2]] + sayings[:2]
            stretches = [some_saying(chance, length, 8)[0:3:2] for _ in range(2)]
            self.hold(length, sayings, asked, stretches)

    def test_what_is_alike_for_long_and_then_parts(self):
        chance = random.Random(42)
        for _ in range(200):
            half = chance.randint(2, 25)
            holes = sorted(chance.sample(range(half), chance.randint(1, 2)))
            turned = chance.random() < 0.5
            sayings = [some_saying(chance, half, 3)]
            for i in range(half):
                if i not in holes:
                    sayings.append((i, half + (half - 1 - i if turned else i), 1, turned))
            self.hold(2 * half, sayings, [(0, half, half, turned), (half, 0, half, turned)], [])

    def test_a_stretch_with_itself(self):
        for length, sayings in [(1, []), (7, []), (9, [(0, 4, 5, True)])]:
            for at, many in all_stretches(length):
                self.assertIs(alike(length, sayings, at, at, many, False), True)
                self.assertIsNone(parted(length, sayings, at, at, many, False))
                self.assertIs(alike(length, sayings, at, at, many, True), mirror(length, sayings, at, many))

    def test_single_places(self):
        sayings = [(0, 3, 2, False)]
        for turned in (False, True):
            self.assertIs(alike(6, sayings, 1, 4, 1, turned), True)
            self.assertIsNone(parted(6, sayings, 1, 4, 1, turned))
            self.assertIs(alike(6, sayings, 1, 3, 1, turned), False)
            self.assertEqual(parted(6, sayings, 1, 3, 1, turned), 0)
        self.assertIs(mirror(6, [], 5, 1), True)
        self.assertIs(mirror(6, [], 4, 2), False)


class Told(unittest.TestCase):
    def test_where_they_part(self):
        sayings = [(0, 10, 4, False), (5, 15, 5, False)]
        self.assertEqual(parted(20, sayings, 0, 10, 10, False), 4)
        self.assertEqual(parted(20, sayings, 10, 0, 10, False), 4)
        self.assertIsNone(parted(20, sayings, 0, 10, 4, False))
        self.assertEqual(parted(20, sayings, 1, 11, 4, False), 3)
        self.assertEqual(parted(20, sayings, 5, 14, 5, False), 0)
        self.assertIsNone(parted(20, sayings, 5, 15, 5, False))

    def test_turned_ones_are_counted_along_the_one(self):
        sayings = [(0, 10, 10, True)]
        self.assertIsNone(parted(20, sayings, 0, 10, 10, True))
        self.assertIsNone(parted(20, sayings, 0, 0, 20, True))
        sayings = [(0, 17, 3, True)]
        self.assertEqual(parted(20, sayings, 0, 10, 10, True), 3)
        self.assertEqual(parted(20, sayings, 10, 0, 10, True), 0)
        sayings = [(3, 10, 7, True)]
        self.assertEqual(parted(20, sayings, 0, 10, 10, True), 0)
        self.assertEqual(parted(20, sayings, 10, 0, 10, True), 7)

    def test_beats(self):
        sayings = [(2, 5, 6, False)]
        self.assertEqual([step for step in range(1, 12) if beat(12, sayings, 2, 9, step)], [3, 6, 9, 10, 11])
        self.assertEqual([step for step in range(1, 12) if beat(12, sayings, 2, 10, step)], [10, 11])
        self.assertEqual([step for step in range(1, 12) if beat(12, sayings, 3, 4, step)], [3, 4, 5, 6, 7, 8, 9, 10, 11])

    def test_what_keeps_two_beats(self):
        for t, u, least in [(4, 6, 2), (3, 5, 1), (6, 9, 3), (4, 8, 4), (5, 5, 5)]:
            for many in (t + u, t + u + 1, t + u + 7):
                length = many + 5
                sayings = [(3, 3 + t, many - t, False), (3, 3 + u, many - u, False)]
                for step in range(1, many):
                    self.assertIs(beat(length, sayings, 3, many, step), step % least == 0)
                self.assertIs(beat(length, sayings, 3, many + 1, least), False)

    def test_a_shorter_one_need_not(self):
        sayings = [(0, 3, 3, False), (0, 5, 1, False)]
        self.assertIs(beat(6, sayings, 0, 6, 3), True)
        self.assertIs(beat(6, sayings, 0, 6, 5), True)
        self.assertIs(beat(6, sayings, 0, 6, 1), False)

    def test_mirrors(self):
        sayings = [(2, 2, 7, True)]
        self.assertEqual([row for row in all_stretches(10) if row[1] > 1 and mirror(10, sayings, *row)],
                         [(4, 3), (3, 5), (2, 7)])


if __name__ == "__main__":
    unittest.main()
