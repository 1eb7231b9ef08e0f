"""Classes of songs that are far too long to be gone through."""

import math
import random
import unittest

from reprise.classes import Classes
from reprise.stretches import breadth, has
from tests.plain import GREATEST, block_firsts, great_songs, some_places, some_sayings

BLOCKS = (1, 2, 3, 10, 11, 10 ** 20, 10 ** 38 + 1, 2 * 10 ** 38)


class GreatSongs(unittest.TestCase):
    def test_what_a_saying_says_alike_has_one_first(self):
        chance = random.Random(21)
        for length, sayings in great_songs():
            classes = Classes(length, sayings)
            for one, other, many, turned in sayings:
                for place in some_places(chance, one, many):
                    i = place - one
                    to = other + many - 1 - i if turned else other + i
                    self.assertEqual(classes.first(place), classes.first(to))
                    self.assertIs(classes.same(place, to), True)
                self.assertEqual(classes.image(one, many), classes.image(other, many))

    def test_a_first_is_its_own_and_is_found_by_its_number(self):
        chance = random.Random(22)
        for length, sayings in great_songs():
            classes = Classes(length, sayings)
            for place in some_places(chance, 0, length):
                first = classes.first(place)
                self.assertLessEqual(first, place)
                self.assertEqual(classes.first(first), first)
                self.assertTrue(has(classes.firsts(), first))
                self.assertEqual(classes.numbered(classes.below(first)), first)
                self.assertEqual(classes.image(place, 1), [(first, first + 1)])
            for k in some_places(chance, 0, classes.count()):
                first = classes.numbered(k)
                self.assertEqual(classes.below(first), k)
                self.assertEqual(classes.below(first + 1), k + 1)
                self.assertEqual(classes.first(first), first)

    def test_firsts_as_a_list(self):
        for length, sayings in great_songs():
            classes = Classes(length, sayings)
            rows = classes.firsts()
            self.assertEqual(classes.length(), length)
            self.assertEqual(rows[0][0], 0)
            self.assertTrue(all(low < behind for low, behind in rows))
            self.assertTrue(all(row[1] < later[0] for row, later in zip(rows, rows[1:])))
            self.assertEqual(classes.count(), breadth(rows))
            self.assertEqual(classes.below(length), classes.count())
            self.assertEqual(classes.below(0), 0)
            self.assertEqual(classes.image(0, length), rows)

    def test_images_of_parts(self):
        chance = random.Random(23)
        for length, sayings in great_songs():
            classes = Classes(length, sayings)
            many = chance.randint(1, length)
            at = chance.randint(0, length - many)
            rows = classes.image(at, many)
            self.assertLessEqual(breadth(rows), min(many, classes.count()))
            for place in some_places(chance, at, many):
                self.assertTrue(has(rows, classes.first(place)))
            for low, behind in rows[:5] + rows[-5:]:
                self.assertEqual(classes.first(low), low)
                self.assertEqual(classes.first(behind - 1), behind - 1)

    def test_without_sayings(self):
        classes = Classes(GREATEST, [])
        self.assertEqual(classes.firsts(), [(0, GREATEST)])
        self.assertEqual(classes.count(), GREATEST)
        self.assertEqual(classes.first(GREATEST - 1), GREATEST - 1)
        self.assertEqual(classes.numbered(GREATEST - 1), GREATEST - 1)
        self.assertEqual(classes.image(7, 10 ** 39), [(7, 10 ** 39 + 7)])


class Blocks(unittest.TestCase):
    def hold(self, length, sayings, size):
        """Hold a song of blocks against the walk from block to block."""
        told, mirrors = block_firsts(length, sayings)
        classes = Classes(length * size, [(one * size, other * size, many * size, turned)
                                          for one, other, many, turned in sayings])
        with self.subTest(f"{length} {sayings} {size}"):
            roots = sorted({root for root, way in told.values()})
            half = (size + 1) // 2
            self.assertEqual(classes.count(), sum(half if root in mirrors else size for root in roots))
            for block, (root, way) in told.items():
                for i in sorted({0, size - 1, size // 2, size // 3, half - 1}):
                    there = size - 1 - i if way else i
                    if root in mirrors:
                        there = min(there, size - 1 - there)
                    self.assertEqual(classes.first(block * size + i), root * size + there)
                behind = half if root in mirrors else size
                self.assertEqual(classes.image(block * size, size), [(root * size, root * size + behind)])

    def test_songs_of_blocks(self):
        chance = random.Random(24)
        for _ in range(60):
            length = chance.randint(1, 40)
            sayings = some_sayings(chance, length, chance.choice([1, 2, 3, 5, 24]))
            for size in BLOCKS:
                self.hold(length, sayings, size)

    def test_straight_songs_of_blocks(self):
        chance = random.Random(25)
        for _ in range(60):
            length = chance.randint(1, 40)
            sayings = [(one, other, many, False) for one, other, many, _ in
                       some_sayings(chance, length, chance.choice([1, 2, 3, 5, 24]))]
            single = Classes(length, sayings)
            for size in BLOCKS:
                self.hold(length, sayings, size)
                great = Classes(length * size, [(one * size, other * size, many * size, False)
                                                for one, other, many, _ in sayings])
                self.assertEqual(great.firsts(), [(low * size, behind * size)
                                                  for low, behind in single.firsts()])


class BeatsAndMirrors(unittest.TestCase):
    def count_of_beats(self, length, t, u):
        return Classes(length, [(0, t, length - t, False), (0, u, length - u, False)])

    def test_two_beats(self):
        for t, u in [(10 ** 38, 3 * 10 ** 37 + 1), (6 * 10 ** 38, 10 ** 39 - 10 ** 20),
                     (2 ** 120, 2 ** 110 * 3), (123456789 * 10 ** 30, 987654321 * 10 ** 29),
                     (7, 10 ** 39), (1, 10 ** 39)]:
            beat = math.gcd(t, u)
            for length in (t + u, t + u + 1, t + u + 10 ** 38, GREATEST):
                classes = self.count_of_beats(length, t, u)
                with self.subTest((t, u, length)):
                    self.assertEqual(classes.firsts(), [(0, beat)])
                    for place in (0, beat, length - 1, length // 2, t, u, t + u - 1):
                        self.assertEqual(classes.first(place), place % beat)

    def test_two_beats_of_a_shorter_song(self):
        # The steps of both beats close no ring there, so each one joins two classes.
        t, u = 10 ** 39 + 7, 3 * 10 ** 38 + 1
        for less in (math.gcd(t, u), 2, 10 ** 20, 3 * 10 ** 38):
            length = t + u - less
            with self.subTest(less):
                self.assertEqual(self.count_of_beats(length, t, u).count(), max(less, math.gcd(t, u)))

    def test_two_beats_of_neighbours_in_the_row_of_sums(self):
        t, u = 1, 1
        while t + u < 10 ** 39:
            t, u = t + u, t
        self.assertEqual(self.count_of_beats(t + u - 1, t, u).firsts(), [(0, 1)])
        self.assertEqual(self.count_of_beats(t + u - 2, t, u).count(), 2)
        self.assertEqual(self.count_of_beats(t + u - 100, t, u).count(), 100)

    def test_a_great_mirror(self):
        for length in (10 ** 39, GREATEST):
            classes = Classes(length, [(0, 0, length, True)])
            self.assertEqual(classes.firsts(), [(0, (length + 1) // 2)])
            for place in (0, 5, length // 2, length - 1):
                self.assertEqual(classes.first(place), min(place, length - 1 - place))

    def test_two_mirrors_make_a_beat(self):
        for length in (10 ** 39, GREATEST):
            for beat in (1, 2, 3, 10 ** 20, 10 ** 38 + 7):
                less = length - beat
                classes = Classes(length, [(0, 0, length, True), (0, 0, less, True)])
                with self.subTest((length, beat)):
                    for place in (0, 1, beat, length // 2, length - 1):
                        rest = place % beat
                        self.assertEqual(classes.first(place), min(rest, (length - 1 - rest) % beat))

    def test_a_beat_within_a_song(self):
        at, many, step = 10 ** 38, 10 ** 39, 12345678901234567890
        classes = Classes(GREATEST, [(at, at + step, many - step, False)])
        self.assertEqual(classes.firsts(), [(0, at + step), (at + many, GREATEST)])
        self.assertEqual(classes.first(at + many - 1), at + (many - 1) % step)
        self.assertEqual(classes.first(at + many), at + many)
        self.assertEqual(classes.first(at - 1), at - 1)
        self.assertEqual(classes.below(at + many), at + step)
        self.assertEqual(classes.numbered(at + step), at + many)
        self.assertEqual(classes.image(at + many - 2, 4), [(at + (many - 2) % step, at + (many - 1) % step + 1),
                                                          (at + many, at + many + 2)])


if __name__ == "__main__":
    unittest.main()
