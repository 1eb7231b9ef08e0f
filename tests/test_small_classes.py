"""Classes of songs that can be gone through place by place."""

import random
import unittest

from reprise.classes import Classes
from reprise.errors import NoPlace
from tests.plain import plain_firsts, rows_of, some_sayings


def all_sayings(length):
    return [(one, other, many, turned)
            for many in range(1, length + 1)
            for one in range(length - many + 1)
            for other in range(length - many + 1)
            for turned in (False, True)]


class SmallSongs(unittest.TestCase):
    def hold(self, length, sayings, stretches):
        """Hold every answer of Classes against the plain joining."""
        told = plain_firsts(length, sayings)
        firsts = sorted(set(told))
        classes = Classes(length, sayings)
        with self.subTest(f"{length} {sayings}"):
            self.assertEqual(classes.length(), length)
            self.assertEqual([classes.first(place) for place in range(length)], told)
            self.assertEqual(classes.firsts(), rows_of(firsts))
            self.assertEqual(classes.count(), len(firsts))
            self.assertEqual([classes.below(place) for place in range(length + 1)],
                             [len([f for f in firsts if f < place]) for place in range(length + 1)])
            self.assertEqual([classes.numbered(k) for k in range(len(firsts))], firsts)
            for at, many in stretches:
                self.assertEqual(classes.image(at, many), rows_of(told[at:at + many]))
                other = at + many - 1
                self.assertIs(classes.same(at, other), told[at] == told[other])
                self.assertIs(classes.same(other, at), told[at] == told[other])

    def stretches_of(self, length):
        return [(at, many) for many in range(1, length + 1) for at in range(length - many + 1)]

    def some_stretches(self, chance, length):
        out = []
        for _ in range(12):
            many = chance.randint(1, length)
            out.append((chance.randint(0, length - many), many))
        return out

    def test_the_empty_song(self):
        self.hold(0, [], [])
        with self.assertRaises(NoPlace):
            Classes(0, []).first(0)

    def test_without_sayings(self):
        for length in (1, 2, 3, 30):
            self.hold(length, [], self.stretches_of(length))

    def test_each_saying_of_the_shortest_songs(self):
        for length in (1, 2, 3, 4, 5, 6):
            for saying in all_sayings(length):
                self.hold(length, [saying], self.stretches_of(length))

    def test_each_two_sayings_of_the_shortest_songs(self):
        for length in (1, 2, 3):
            for saying in all_sayings(length):
                for other in all_sayings(length):
                    self.hold(length, [saying, other], self.stretches_of(length))

    def test_told_songs(self):
        for length, sayings in [
                (10, [(0, 5, 5, False)]),
                (10, [(0, 5, 5, True)]),
                (10, [(5, 0, 5, True)]),
                (10, [(0, 3, 7, False)]),
                (10, [(0, 0, 10, True)]),
                (11, [(0, 0, 11, True)]),
                (11, [(2, 4, 7, True)]),
                (12, [(2, 5, 7, True), (0, 4, 8, False)]),
                (20, [(4, 4, 9, False)]),
                (30, [(0, 7, 23, False), (0, 11, 19, False)]),
                (30, [(0, 12, 18, False), (0, 18, 12, False)]),
                (17, [(0, 7, 10, False), (0, 11, 6, False)]),
                (16, [(0, 7, 9, False), (0, 11, 5, False)]),
                (40, [(0, 0, 40, True), (0, 0, 37, True)]),
                (40, [(3, 20, 8, False), (20, 31, 8, True), (3, 31, 8, False)])]:
            self.hold(length, sayings, self.stretches_of(length))

    def test_songs_at_random(self):
        chance = random.Random(11)
        for _ in range(1500):
            length = chance.randint(1, 70)
            sayings = some_sayings(chance, length, chance.choice([0, 1, 2, 3, 4, 5, 7, 24]))
            self.hold(length, sayings, self.some_stretches(chance, length))

    def test_straight_songs_and_turned_songs(self):
        chance = random.Random(12)
        for turned in (False, True):
            for _ in range(500):
                length = chance.randint(1, 60)
                sayings = [(one, other, many, turned) for one, other, many, _ in
                           some_sayings(chance, length, chance.randint(1, 6))]
                self.hold(length, sayings, self.some_stretches(chance, length))

    def test_beats_and_mirrors(self):
        chance = random.Random(13)
        for _ in range(500):
            length = chance.randint(2, 60)
            sayings = []
            for _ in range(chance.randint(1, 4)):
                many = chance.randint(2, length)
                at = chance.randint(0, length - many)
                if chance.random() < 0.5:
                    step = chance.randint(1, many - 1)
                    sayings.append((at, at + step, many - step, False))
                else:
                    sayings.append((at, at, many, True))
            self.hold(length, sayings, self.some_stretches(chance, length))


class TwoBeats(unittest.TestCase):
    def test_a_stretch_as_long_as_both_keeps_what_divides_both(self):
        for t, u, beat in [(4, 6, 2), (3, 5, 1), (6, 9, 3), (4, 8, 4), (5, 5, 5)]:
            length = t + u
            classes = Classes(length, [(0, t, length - t, False), (0, u, length - u, False)])
            with self.subTest((t, u)):
                self.assertEqual(classes.firsts(), [(0, beat)])
                self.assertEqual([classes.first(place) for place in range(length)],
                                 [place % beat for place in range(length)])

    def test_a_shorter_one_need_not(self):
        classes = Classes(6, [(0, 3, 3, False), (0, 5, 1, False)])
        self.assertEqual(classes.firsts(), [(0, 2)])
        self.assertEqual([classes.first(place) for place in range(6)], [0, 1, 0, 0, 1, 0])


if __name__ == "__main__":
    unittest.main()
