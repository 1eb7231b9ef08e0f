"""What nothing hangs on, what may be changed afterwards, and the kinds of values."""

import random
import unittest

from reprise.classes import Classes
from reprise.errors import NoPlace
from tests.plain import GREATEST, great_songs, some_saying, some_sayings


def songs():
    """Small songs and great ones."""
    chance = random.Random(31)
    out = []
    for _ in range(60):
        length = chance.randint(1, 50)
        out.append((length, some_sayings(chance, length, chance.randint(1, 8))))
    return out + [song for song in great_songs() if song[1]]


def in_two_parts(saying, size):
    """A saying told as its first places and the rest."""
    one, other, many, turned = saying
    if turned:
        return [(one, other + many - size, size, True), (one + size, other, many - size, True)]
    return [(one, other, size, False), (one + size, other + size, many - size, False)]


class Retold(unittest.TestCase):
    def hold(self, length, sayings, retold):
        chance = random.Random(length)
        classes = Classes(length, sayings)
        again = Classes(length, retold)
        self.assertEqual(classes.firsts(), again.firsts())
        self.assertEqual(classes.count(), again.count())
        for _ in range(12):
            place = chance.randrange(length)
            self.assertEqual(classes.first(place), again.first(place))
            many = chance.randint(1, length - place)
            self.assertEqual(classes.image(place, many), again.image(place, many))

    def test_another_order(self):
        chance = random.Random(32)
        for length, sayings in songs():
            self.hold(length, sayings, sayings[::-1])
            self.hold(length, sayings, chance.sample(sayings, len(sayings)))

    def test_the_two_stretches_exchanged(self):
        for length, sayings in songs():
            self.hold(length, sayings, [(other, one, many, turned) for one, other, many, turned in sayings])
            self.hold(length, sayings, [(sayings[0][1], sayings[0][0], *sayings[0][2:])] + sayings[1:])

    def test_a_saying_told_twice(self):
        for length, sayings in songs():
            self.hold(length, sayings, sayings + [sayings[-1]])
            self.hold(length, sayings, [sayings[0]] * 2 + sayings)

    def test_a_saying_told_in_two_parts(self):
        chance = random.Random(33)
        for length, sayings in songs():
            for saying in sayings[:2]:
                if saying[2] > 1:
                    rest = [other for other in sayings if other != saying]
                    for size in {1, saying[2] - 1, chance.randint(1, saying[2] - 1)}:
                        self.hold(length, sayings, rest + in_two_parts(saying, size))

    def test_a_stretch_said_to_be_itself(self):
        chance = random.Random(34)
        for length, sayings in songs():
            one, _, many, _ = some_saying(chance, length, length)
            self.hold(length, sayings, sayings + [(one, one, many, False)])

    def test_what_follows_may_be_said(self):
        for length, sayings in songs():
            one, other, many, turned = sayings[0]
            self.hold(length, sayings, sayings + [(one, other, (many + 1) // 2, False)]
                      if not turned else sayings + [(one, other + many // 2, many - many // 2, True)])


class OneMoreSaying(unittest.TestCase):
    def test_as_many_firsts_just_where_it_was_so_already(self):
        chance = random.Random(35)
        seen = {True: 0, False: 0}
        for _ in range(800):
            length = chance.randint(1, 30)
            sayings = some_sayings(chance, length, chance.randint(0, 5))
            one, other, many, turned = some_saying(chance, length, 6)
            classes = Classes(length, sayings)
            so = all(classes.same(one + i, other + many - 1 - i if turned else other + i) for i in range(many))
            more = Classes(length, sayings + [(one, other, many, turned)])
            self.assertIs(more.count() == classes.count(), so)
            self.assertLessEqual(more.count(), classes.count())
            seen[so] += 1
        self.assertGreater(min(seen.values()), 50)


class Apart(unittest.TestCase):
    def answers(self, classes):
        length = classes.length()
        return [length, classes.count(), classes.firsts(), classes.first(length - 1),
                classes.same(0, length - 1), classes.below(length), classes.numbered(0),
                classes.image(1, length - 1)]

    def test_what_is_handed_in_stays_and_may_be_changed(self):
        for length, told in songs():
            if length < 2:
                continue
            sayings = list(told)
            classes = Classes(length, sayings)
            self.assertEqual(sayings, told)
            answers = self.answers(classes)
            sayings.clear()
            self.assertEqual(self.answers(classes), answers)
            sayings.append((0, 0, length, True))
            self.assertEqual(self.answers(classes), answers)

    def test_what_is_told_may_be_changed(self):
        for length, sayings in songs():
            if length < 2:
                continue
            classes = Classes(length, sayings)
            answers = self.answers(classes)
            classes.firsts().clear()
            classes.firsts().append((0, 1))
            classes.image(0, length).clear()
            classes.image(1, length - 1).insert(0, (7, 8))
            self.assertEqual(self.answers(classes), answers)

    def test_two_made_apart(self):
        sayings = [(0, 5, 5, False)]
        classes = Classes(10, sayings)
        answers = self.answers(classes)
        sayings.append((0, 1, 9, False))
        other = Classes(10, sayings)
        self.assertEqual(other.count(), 1)
        self.assertEqual(self.answers(classes), answers)
        self.assertEqual(classes.count(), 5)
        greater = Classes(GREATEST, [])
        self.assertEqual((classes.length(), other.length(), greater.length()), (10, 10, GREATEST))

    def test_a_refusal_changes_nothing(self):
        classes = Classes(10, [(0, 5, 5, True)])
        answers = self.answers(classes)
        for place in (-1, 11):
            with self.assertRaises(NoPlace):
                classes.below(place)
        self.assertEqual(self.answers(classes), answers)


class Kinds(unittest.TestCase):
    def test_numbers_truths_and_lists(self):
        for length, sayings in songs():
            classes = Classes(length, sayings)
            for number in [classes.length(), classes.count(), classes.first(length - 1), classes.first(0),
                           classes.below(0), classes.below(length), classes.numbered(0)]:
                self.assertIs(type(number), int)
            self.assertIs(classes.same(0, 0), True)
            self.assertIn(classes.same(0, length - 1), (True, False))
            self.assertIs(type(classes.same(0, length - 1)), bool)
            for rows in [classes.firsts(), classes.image(0, length)]:
                self.assertIs(type(rows), list)
                for row in rows:
                    self.assertIs(type(row), tuple)
                    self.assertEqual([type(number) for number in row], [int, int])

    def test_the_empty_song(self):
        classes = Classes(0, [])
        self.assertEqual(classes.firsts(), [])
        self.assertIs(type(classes.count()), int)
        self.assertEqual((classes.count(), classes.length()), (0, 0))


if __name__ == "__main__":
    unittest.main()
