"""Lists of firsts and ways of small songs."""

import random
import unittest

from reprise.small import each_first, leads, path, wrong
from tests.plain import pairs_of, plain_firsts, some_sayings

FAR = 10 ** 45 - 1


def steps_of(length, sayings):
    """For each place all its steps, told by each pair that a saying says alike."""
    steps = [set() for _ in range(length)]
    for k, saying in enumerate(sayings):
        for one, other in pairs_of(saying):
            steps[one].add((k, other))
            steps[other].add((k, one))
    return steps


def distances(length, steps, one):
    """For each place by how few steps it is reached, found by trying again and again."""
    out = [None] * length
    out[one] = 0
    changed = True
    while changed:
        changed = False
        for place in range(length):
            for k, to in steps[place]:
                if out[place] is not None and (out[to] is None or out[to] > out[place] + 1):
                    out[to] = out[place] + 1
                    changed = True
    return out


def some_songs(seed, count, longest):
    chance = random.Random(seed)
    for _ in range(count):
        length = chance.randint(1, longest)
        yield length, some_sayings(chance, length, chance.choice([0, 1, 2, 3, 5, 24]))


class ListsOfFirsts(unittest.TestCase):
    def test_the_shortest_songs(self):
        self.assertEqual(each_first(0, []), [])
        self.assertIsNone(wrong(0, [], []))
        self.assertEqual(each_first(1, []), [0])
        self.assertEqual(each_first(1, [(0, 0, 1, True)]), [0])
        self.assertEqual(each_first(2, []), [0, 1])
        self.assertEqual(each_first(2, [(0, 1, 1, False)]), [0, 0])
        self.assertEqual(each_first(2, [(0, 0, 2, True)]), [0, 0])
        self.assertEqual(each_first(2, [(0, 0, 2, False)]), [0, 1])

    def test_against_the_plain_joining(self):
        for length, sayings in some_songs(61, 150, 80):
            self.assertEqual(each_first(length, sayings), plain_firsts(length, sayings))
        for length, sayings in [(400, [(0, 7, 393, False), (0, 0, 399, True)]), (400, []),
                                (400, some_sayings(random.Random(62), 400, 24)),
                                (399, some_sayings(random.Random(63), 399, 3))]:
            self.assertEqual(each_first(length, sayings), plain_firsts(length, sayings))

    def test_right_ones(self):
        for length, sayings in some_songs(64, 60, 60):
            self.assertIsNone(wrong(length, sayings, plain_firsts(length, sayings)))
        sayings = some_sayings(random.Random(65), 400, 5)
        self.assertIsNone(wrong(400, sayings, plain_firsts(400, sayings)))

    def test_wrong_ones(self):
        chance = random.Random(66)
        for length, sayings in list(some_songs(67, 100, 60)) + [(400, [(0, 200, 200, True)])]:
            right = plain_firsts(length, sayings)
            for many in (1, 1, 2, 3):
                places = sorted(chance.sample(range(length), min(many, length)))
                told = list(right)
                for place in places:
                    told[place] = chance.choice([n for n in (-1, -FAR, FAR, length, place, place + 1, 0, right[place] - 1)
                                                 if n != right[place]])
                self.assertEqual(wrong(length, sayings, told), places[0])

    def test_alike_places_that_are_no_firsts_are_wrong(self):
        self.assertEqual(wrong(4, [(0, 1, 3, False)], [0, 0, 1, 0]), 2)
        self.assertEqual(wrong(4, [(0, 1, 3, False)], [3, 3, 3, 3]), 0)
        self.assertEqual(wrong(4, [(0, 1, 3, False)], [0, 0, 0, 3]), 3)
        self.assertEqual(wrong(4, [], [0, 0, 2, 3]), 1)
        self.assertEqual(wrong(1, [], [1]), 0)


class Ways(unittest.TestCase):
    def hold(self, length, sayings, one, others):
        """Hold ways from a place against all steps there are."""
        steps = steps_of(length, sayings)
        least = distances(length, steps, one)
        for other in others:
            with self.subTest(f"{length} {sayings} {one} {other}"):
                way = path(length, sayings, one, other)
                if least[other] is None:
                    self.assertIsNone(way)
                    continue
                self.assertIs(type(way), list)
                self.assertEqual(len(way), least[other])
                place = one
                for step in way:
                    self.assertIs(type(step), tuple)
                    self.assertIn(step, steps[place])
                    place = step[1]
                self.assertEqual(place, other)
                self.assertEqual(leads(length, sayings, one, way), other)

    def test_songs_at_random(self):
        chance = random.Random(68)
        for length, sayings in some_songs(69, 150, 40):
            self.hold(length, sayings, chance.randrange(length), range(length))

    def test_long_ways(self):
        self.hold(400, [(0, 1, 399, False)], 0, (0, 1, 200, 399))
        self.hold(400, [(1, 0, 399, False)], 399, (0, 399))
        self.hold(400, [(0, 7, 393, False), (0, 11, 389, False)], 3, range(0, 400, 13))
        self.hold(400, some_sayings(random.Random(70), 400, 24), 17, range(0, 400, 29))
        self.assertEqual(len(path(400, [(0, 1, 399, False)], 0, 399)), 399)

    def test_told_ways(self):
        self.assertEqual(path(10, [(0, 5, 5, False)], 2, 7), [(0, 7)])
        self.assertEqual(path(10, [(0, 5, 5, False)], 7, 2), [(0, 2)])
        self.assertEqual(path(10, [(0, 5, 5, True)], 0, 9), [(0, 9)])
        self.assertEqual(path(10, [(0, 5, 5, True)], 9, 0), [(0, 0)])
        self.assertIsNone(path(10, [(0, 5, 5, True)], 0, 5))
        self.assertEqual(path(9, [(0, 3, 3, False), (3, 6, 3, True)], 0, 8), [(0, 3), (1, 8)])
        self.assertEqual(path(9, [(0, 3, 3, False), (3, 6, 3, True), (8, 0, 1, False)], 0, 8), [(2, 8)])
        self.assertEqual(path(6, [(0, 2, 4, False)], 0, 4), [(0, 2), (0, 4)])

    def test_from_a_place_to_itself(self):
        for length, sayings in [(1, []), (2, []), (400, []), (1, [(0, 0, 1, True)]), (5, [(0, 0, 5, True)])]:
            for place in (0, length // 2, length - 1):
                self.assertEqual(path(length, sayings, place, place), [])

    def test_no_way(self):
        self.assertIsNone(path(2, [], 0, 1))
        self.assertIsNone(path(400, [(0, 0, 400, False)], 0, 399))
        self.assertIsNone(path(400, [(0, 2, 398, False)], 0, 399))


class Leading(unittest.TestCase):
    def test_each_step_and_no_other(self):
        for length, sayings in some_songs(71, 40, 9):
            sayings = sayings[:4]
            steps = steps_of(length, sayings)
            for one in range(length):
                for k in range(-2, len(sayings) + 2):
                    for to in range(-3, length + 3):
                        with self.subTest(f"{length} {sayings} {one} {k} {to}"):
                            self.assertEqual(leads(length, sayings, one, [(k, to)]),
                                             to if (k, to) in steps[one] else None)

    def test_ways_at_random(self):
        chance = random.Random(72)
        for length, sayings in some_songs(73, 100, 400):
            steps = steps_of(length, sayings)
            one = place = chance.randrange(length)
            way = []
            for _ in range(30):
                if steps[place]:
                    way.append(chance.choice(sorted(steps[place])))
                    place = way[-1][1]
            self.assertEqual(leads(length, sayings, one, way), place)
            for bad in [(-1, place), (len(sayings), place), (0, -1), (0, length), (FAR, FAR), (-FAR, -FAR), (0, FAR)]:
                at = chance.randint(0, len(way))
                self.assertIsNone(leads(length, sayings, one, way[:at] + [bad] + way[at:]))

    def test_a_step_that_begins_elsewhere(self):
        sayings = [(0, 3, 3, False), (3, 6, 3, False)]
        self.assertEqual(leads(9, sayings, 1, [(0, 4), (1, 7)]), 7)
        self.assertIsNone(leads(9, sayings, 1, [(1, 7), (0, 4)]))
        self.assertIsNone(leads(9, sayings, 1, [(0, 3)]))
        self.assertIsNone(leads(9, sayings, 1, [(1, 4)]))
        self.assertIsNone(leads(9, sayings, 1, [(0, 4), (1, 8)]))
        self.assertIsNone(leads(9, sayings, 1, [(0, 4), (0, 4)]))
        self.assertIsNone(leads(9, sayings, 1, [(-2, 4)]))
        self.assertEqual(leads(9, sayings, 7, [(1, 4), (0, 1), (0, 4)]), 4)

    def test_no_steps(self):
        self.assertEqual(leads(1, [], 0, []), 0)
        self.assertEqual(leads(400, [], 399, []), 399)

    def test_a_step_to_the_place_itself(self):
        self.assertEqual(leads(5, [(0, 0, 5, False)], 3, [(0, 3), (0, 3)]), 3)
        self.assertEqual(leads(5, [(0, 0, 5, True)], 2, [(0, 2)]), 2)
        self.assertIsNone(leads(5, [(0, 0, 5, True)], 3, [(0, 3)]))

    def test_without_sayings_there_is_no_step(self):
        for k in (-1, 0, 1):
            self.assertIsNone(leads(3, [], 1, [(k, 1)]))

    def test_a_saying_told_twice_may_be_named_by_either_place(self):
        sayings = [(0, 2, 1, False), (0, 2, 1, False)]
        self.assertEqual(leads(3, sayings, 0, [(0, 2)]), 2)
        self.assertEqual(leads(3, sayings, 0, [(1, 2)]), 2)


if __name__ == "__main__":
    unittest.main()
