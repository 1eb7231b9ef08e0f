"""Lists of stretches."""

import random
import unittest

from reprise.stretches import breadth, has, kth, meet, tidy, under
from tests.plain import rows_of

FAR = 10 ** 45 - 1


def places_of(rows):
    return {place for low, behind in rows for place in range(low, behind)}


def some_pairs(chance):
    count = chance.randint(0, 8)
    return [(chance.randint(-20, 20), chance.randint(-20, 20)) for _ in range(count)]


class Tidy(unittest.TestCase):
    def test_told_cases(self):
        for pairs, rows in [
                ([], []),
                ([(3, 5)], [(3, 5)]),
                ([(3, 3)], []),
                ([(5, 3)], []),
                ([(3, 5), (5, 8)], [(3, 8)]),
                ([(5, 8), (3, 5)], [(3, 8)]),
                ([(3, 5), (6, 8)], [(3, 5), (6, 8)]),
                ([(6, 8), (3, 5)], [(3, 5), (6, 8)]),
                ([(3, 6), (5, 8)], [(3, 8)]),
                ([(0, 9), (3, 5)], [(0, 9)]),
                ([(3, 5), (0, 9)], [(0, 9)]),
                ([(0, 9), (3, 5), (8, 10)], [(0, 10)]),
                ([(2, 4), (2, 4)], [(2, 4)]),
                ([(2, 4), (2, 7)], [(2, 7)]),
                ([(0, 2), (3, 3), (4, 6)], [(0, 2), (4, 6)]),
                ([(0, 2), (3, 2), (2, 1), (4, 6)], [(0, 2), (4, 6)]),
                ([(-3, 1), (-9, -5), (0, 2)], [(-9, -5), (-3, 2)]),
                ([(0, FAR), (-FAR, 0)], [(-FAR, FAR)]),
                ([(1, FAR), (-FAR, 0), (FAR, -FAR)], [(-FAR, 0), (1, FAR)])]:
            with self.subTest(pairs):
                self.assertEqual(tidy(pairs), rows)

    def test_against_single_places(self):
        chance = random.Random(1)
        for _ in range(2000):
            pairs = some_pairs(chance)
            with self.subTest(pairs):
                self.assertEqual(tidy(pairs), rows_of(places_of(pairs)))

    def test_what_is_tidy_stays(self):
        chance = random.Random(2)
        for _ in range(300):
            rows = tidy(some_pairs(chance))
            self.assertEqual(tidy(rows), rows)

    def test_the_list_handed_in_stays_and_is_not_the_one_told(self):
        pairs = [(5, 8), (9, 1), (0, 6)]
        told = tidy(pairs)
        self.assertEqual(pairs, [(5, 8), (9, 1), (0, 6)])
        rows = [(0, 2), (4, 6)]
        other = tidy(rows)
        other.append((9, 10))
        self.assertEqual(rows, [(0, 2), (4, 6)])
        self.assertEqual(told, [(0, 8)])

    def test_kinds(self):
        told = tidy([(0, 2), (2, 3), (7, 8)])
        self.assertIs(type(told), list)
        for pair in told:
            self.assertIs(type(pair), tuple)


class Asking(unittest.TestCase):
    def test_empty_lists(self):
        self.assertEqual(breadth([]), 0)
        self.assertIs(has([], 0), False)
        self.assertEqual(under([], 5), 0)
        self.assertIsNone(kth([], 0))
        self.assertEqual(meet([], []), [])
        self.assertEqual(meet([], [(0, 4)]), [])
        self.assertEqual(meet([(0, 4)], []), [])

    def test_at_the_edges(self):
        rows = [(2, 4), (7, 8)]
        self.assertEqual(breadth(rows), 3)
        self.assertEqual([has(rows, place) for place in range(1, 10)],
                         [False, True, True, False, False, False, True, False, False])
        self.assertEqual([under(rows, place) for place in range(1, 10)],
                         [0, 0, 1, 2, 2, 2, 2, 3, 3])
        self.assertEqual([kth(rows, k) for k in range(-2, 5)],
                         [None, None, 2, 3, 7, None, None])

    def test_great_numbers(self):
        rows = [(-FAR, -FAR + 2), (0, 10 ** 44), (FAR - 1, FAR)]
        self.assertEqual(breadth(rows), 10 ** 44 + 3)
        self.assertIs(has(rows, FAR - 1), True)
        self.assertIs(has(rows, FAR), False)
        self.assertIs(has(rows, 10 ** 44), False)
        self.assertIs(has(rows, -FAR), True)
        self.assertEqual(under(rows, FAR), 10 ** 44 + 3)
        self.assertEqual(under(rows, -FAR), 0)
        self.assertEqual(under(rows, 10 ** 43), 10 ** 43 + 2)
        self.assertEqual(kth(rows, 10 ** 44 + 2), FAR - 1)
        self.assertIsNone(kth(rows, 10 ** 44 + 3))
        self.assertIsNone(kth(rows, FAR))
        self.assertIsNone(kth(rows, -FAR))
        self.assertEqual(meet(rows, [(1 - FAR, FAR)]),
                         [(1 - FAR, 2 - FAR), (0, 10 ** 44), (FAR - 1, FAR)])

    def test_against_single_places(self):
        chance = random.Random(3)
        for _ in range(500):
            rows = tidy(some_pairs(chance))
            places = sorted(places_of(rows))
            with self.subTest(rows):
                self.assertEqual(breadth(rows), len(places))
                for place in range(-23, 24):
                    self.assertIs(has(rows, place), place in places)
                    self.assertEqual(under(rows, place), len([p for p in places if p < place]))
                for k in range(-3, 45):
                    self.assertEqual(kth(rows, k), places[k] if 0 <= k < len(places) else None)

    def test_meet_either_way_round(self):
        chance = random.Random(4)
        for _ in range(2000):
            rows = tidy(some_pairs(chance))
            others = tidy(some_pairs(chance))
            told = rows_of(places_of(rows) & places_of(others))
            with self.subTest((rows, others)):
                self.assertEqual(meet(rows, others), told)
                self.assertEqual(meet(others, rows), told)

    def test_what_meets(self):
        rows = [(0, 5), (10, 15)]
        self.assertEqual(meet(rows, rows), rows)
        self.assertEqual(meet(rows, [(5, 10)]), [])
        self.assertEqual(meet(rows, [(4, 11)]), [(4, 5), (10, 11)])
        self.assertEqual(meet(rows, [(-9, 90)]), rows)
        self.assertEqual(meet(rows, [(1, 2), (3, 4), (14, 20)]), [(1, 2), (3, 4), (14, 15)])

    def test_nothing_handed_in_is_changed(self):
        rows = [(0, 5), (10, 15)]
        others = [(3, 12)]
        met = meet(rows, others)
        breadth(rows), has(rows, 3), under(rows, 12), kth(rows, 7)
        met.clear()
        self.assertEqual((rows, others), ([(0, 5), (10, 15)], [(3, 12)]))
        told = meet(rows, rows)
        told.clear()
        self.assertEqual(rows, [(0, 5), (10, 15)])

    def test_kinds(self):
        rows = [(0, 1), (2, 3)]
        self.assertIs(type(breadth(rows)), int)
        self.assertIs(type(breadth([])), int)
        self.assertIs(type(under(rows, 1)), int)
        self.assertIs(type(under(rows, 0)), int)
        self.assertIs(type(kth(rows, 1)), int)
        self.assertIs(type(meet(rows, rows)), list)
        self.assertIs(type(meet(rows, rows)[0]), tuple)


if __name__ == "__main__":
    unittest.main()
