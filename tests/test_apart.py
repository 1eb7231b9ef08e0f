"""What may be changed afterwards, and the kinds of values, of likes, small songs and memories."""

import random
import unittest

from reprise.classes import Classes
from reprise.errors import BadStretch, NoPlace
from reprise.likes import alike, beat, mirror, parted
from reprise.memory import Memories
from reprise.small import each_first, leads, path, wrong
from tests.plain import GREATEST, some_saying, some_sayings


def songs():
    chance = random.Random(101)
    out = []
    for length in (2, 3, 7, 20, 60, 400):
        for count in (0, 1, 3, 24):
            out.append((length, some_sayings(chance, length, count)))
    return out


def great_ones():
    chance = random.Random(102)
    return [(length, some_sayings(chance, length, count)) for length in (10 ** 39, GREATEST) for count in (0, 2, 24)]


class Likes(unittest.TestCase):
    def test_sayings_stay_as_they_were(self):
        chance = random.Random(103)
        for length, told in songs() + great_ones():
            sayings = list(told)
            one, other, many, turned = some_saying(chance, length, length)
            alike(length, sayings, one, other, many, turned)
            parted(length, sayings, one, other, many, turned)
            beat(length, sayings, one, many, max(1, many // 2))
            mirror(length, sayings, one, many)
            self.assertEqual(sayings, told)

    def test_each_question_stands_alone(self):
        sayings = []
        self.assertEqual(parted(6, sayings, 0, 3, 3, False), 0)
        sayings.append((0, 3, 3, False))
        self.assertIsNone(parted(6, sayings, 0, 3, 3, False))
        self.assertIs(beat(6, sayings, 0, 6, 3), True)
        sayings.clear()
        self.assertIs(alike(6, sayings, 0, 3, 3, False), False)
        self.assertIs(beat(6, sayings, 0, 6, 3), False)

    def test_kinds(self):
        chance = random.Random(104)
        for length, sayings in songs() + great_ones():
            one, other, many, turned = some_saying(chance, length, length)
            self.assertIs(type(alike(length, sayings, one, other, many, turned)), bool)
            self.assertIs(type(mirror(length, sayings, one, many)), bool)
            for step in (1, many, many + 1):
                self.assertIs(type(beat(length, sayings, one, many, step)), bool)
            where = parted(length, sayings, one, other, many, turned)
            self.assertTrue(where is None or type(where) is int)
        self.assertIs(type(parted(2, [], 0, 1, 1, False)), int)
        self.assertIs(type(parted(4, [(0, 2, 1, False)], 0, 2, 2, False)), int)


class Small(unittest.TestCase):
    def test_what_is_handed_in_stays_as_it_was(self):
        for length, told in songs():
            sayings = list(told)
            firsts = each_first(length, sayings)
            judged = list(firsts)
            self.assertIsNone(wrong(length, sayings, judged))
            way = path(length, sayings, 0, length - 1)
            steps = [(0, 0), (1, 1)] if way is None else list(way)
            kept = list(steps)
            leads(length, sayings, 0, steps)
            self.assertEqual((sayings, judged, steps), (told, firsts, kept))

    def test_what_is_told_may_be_changed(self):
        for length, sayings in songs():
            firsts = each_first(length, sayings)
            kept = list(firsts)
            firsts.clear()
            self.assertEqual(each_first(length, sayings), kept)
            for other in {0, length // 2, length - 1}:
                way = path(length, sayings, 0, other)
                if way is not None:
                    many = len(way)
                    way.append((7, 7))
                    self.assertEqual(len(path(length, sayings, 0, other)), many)

    def test_kinds(self):
        for length, sayings in songs():
            firsts = each_first(length, sayings)
            self.assertIs(type(firsts), list)
            self.assertEqual({type(first) for first in firsts}, {int})
            self.assertIs(type(wrong(length, sayings, [-1] * length)), int)
            self.assertIs(type(leads(length, sayings, 1, [])), int)
            for other in range(0, length, 7):
                way = path(length, sayings, 1, other)
                if way is not None:
                    self.assertIs(type(way), list)
                    for step in way:
                        self.assertIs(type(step), tuple)
                        self.assertEqual([type(number) for number in step], [int, int])
        self.assertEqual(path(2, [(0, 1, 1, False)], 0, 1), [(0, 1)])
        self.assertIs(type(leads(2, [(0, 1, 1, False)], 0, [(0, 1)])), int)


class Remembered(unittest.TestCase):
    def answers(self, memories, length):
        return [memories.settled(), memories.free(), memories.quarrel(), memories.note(0), memories.note(length - 1),
                memories.shown(0, min(length, 30)), memories.shown(max(0, length - 30), min(length, 30))]

    def rows_for(self, length):
        half = length // 2
        return [(1, "a", 0, 1), (3, "b", half, length - half), (4, "c", 0, length)]

    def test_what_is_handed_in_stays_and_may_be_changed(self):
        for length, told in songs() + great_ones():
            sayings = list(told)
            rows = self.rows_for(length)
            classes = Classes(length, sayings)
            counted = (classes.count(), classes.firsts(), classes.image(0, length))
            memories = Memories(classes, rows)
            answers = self.answers(memories, length)
            self.assertEqual((sayings, rows), (told, self.rows_for(length)))
            self.assertEqual((classes.count(), classes.firsts(), classes.image(0, length)), counted)
            rows.clear()
            sayings.clear()
            self.assertEqual(self.answers(memories, length), answers)
            rows.append((1, "x", 0, length))
            sayings.append((0, 0, length, True))
            self.assertEqual(self.answers(memories, length), answers)

    def test_what_the_classes_told_may_be_changed(self):
        for length, sayings in songs():
            classes = Classes(length, sayings)
            memories = Memories(classes, self.rows_for(length))
            answers = self.answers(memories, length)
            classes.firsts().clear()
            for at, many in [(0, 1), (0, length)]:
                classes.image(at, many).clear()
            self.assertEqual(self.answers(memories, length), answers)

    def test_two_made_apart(self):
        classes = Classes(6, [(0, 3, 3, False)])
        rows = [(1, "a", 0, 2)]
        one = Memories(classes, rows)
        rows.append((2, "b", 4, 2))
        other = Memories(classes, rows)
        third = Memories(Classes(6, []), rows)
        self.assertEqual((one.shown(0, 6), one.settled(), one.quarrel()), ("aa-aa-", 2, None))
        self.assertEqual((other.shown(0, 6), other.settled(), other.quarrel()), ("aabaab", 3, (1, 2, 1)))
        self.assertEqual((third.shown(0, 6), third.settled(), third.quarrel()), ("aa--bb", 4, None))

    def test_a_refusal_changes_nothing(self):
        memories = Memories(Classes(6, [(0, 3, 3, True)]), [(1, "a", 0, 2)])
        answers = self.answers(memories, 6)
        with self.assertRaises(NoPlace):
            memories.note(6)
        with self.assertRaises(BadStretch):
            memories.shown(5, 2)
        self.assertEqual(self.answers(memories, 6), answers)

    def test_kinds(self):
        for length, sayings in songs() + great_ones():
            for rows in [[], self.rows_for(length)]:
                memories = Memories(Classes(length, sayings), rows)
                self.assertIs(type(memories.settled()), int)
                self.assertIs(type(memories.free()), int)
                self.assertIs(type(memories.note(0)), str)
                self.assertIs(type(memories.shown(0, 1)), str)
                quarrel = memories.quarrel()
                if rows:
                    self.assertIs(type(quarrel), tuple)
                    self.assertEqual([type(number) for number in quarrel], [int, int, int])
                else:
                    self.assertIsNone(quarrel)


if __name__ == "__main__":
    unittest.main()
