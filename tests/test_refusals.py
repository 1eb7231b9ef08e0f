"""What Classes refuses, and at which edge."""

import unittest

from reprise.classes import Classes
from reprise.errors import BadLength, BadStretch, NoPlace
from tests.plain import FAR, GREATEST


class Making(unittest.TestCase):
    def test_lengths(self):
        for length in (-1, -FAR, 10 ** 40, 10 ** 40 + 1, FAR):
            with self.subTest(length):
                with self.assertRaises(BadLength):
                    Classes(length, [])
        for length in (0, 1, 2, 10 ** 39, GREATEST):
            self.assertEqual(Classes(length, []).length(), length)

    def test_stretches(self):
        for length in (5, GREATEST):
            for at, many in [(0, 0), (2, 0), (0, -1), (2, -1), (length, 0), (length + 1, -1), (-1, 1), (-1, 2),
                             (-FAR, FAR), (length, 1), (length - 1, 2), (0, length + 1), (1, length),
                             (FAR, 1), (0, FAR), (FAR, -FAR), (0, -FAR)]:
                for saying in [(at, 0, many, False), (0, at, many, False), (at, at, many, False),
                               (at, 0, many, True), (0, at, many, True), (at, at, many, True)]:
                    with self.subTest((length, saying)):
                        with self.assertRaises(BadStretch):
                            Classes(length, [saying])

    def test_stretches_up_to_the_edge(self):
        for length in (5, GREATEST):
            for turned in (False, True):
                for saying in [(0, 0, length, turned), (length - 1, 0, 1, turned), (0, 1, length - 1, turned)]:
                    self.assertEqual(Classes(length, [saying]).length(), length)

    def test_any_saying_of_the_list_is_refused(self):
        good = (0, 1, 2, False)
        for bad in [(3, 0, 3, False), (0, 3, 3, True)]:
            for sayings in [[bad], [good, bad], [bad, good], [good] * 23 + [bad]]:
                with self.assertRaises(BadStretch):
                    Classes(5, sayings)

    def test_the_empty_song_has_no_stretch(self):
        for saying in [(0, 0, 0, False), (0, 0, 1, False), (0, 0, 1, True)]:
            with self.assertRaises(BadStretch):
                Classes(0, [saying])

    def test_the_length_is_refused_first(self):
        for length in (-1, 10 ** 40):
            for saying in [(0, 0, 0, False), (-1, 0, 1, False), (0, FAR, 1, True)]:
                with self.assertRaises(BadLength):
                    Classes(length, [saying])


class Asking(unittest.TestCase):
    def songs(self):
        return [Classes(0, []), Classes(1, []), Classes(5, [(0, 2, 3, False)]),
                Classes(GREATEST, [(0, 2, 3, False), (9, 9, 10 ** 39, True)])]

    def test_places(self):
        for classes in self.songs():
            length = classes.length()
            for place in (-1, -FAR, length, length + 1, FAR):
                with self.assertRaises(NoPlace):
                    classes.first(place)
                with self.assertRaises(NoPlace):
                    classes.same(place, place)
                if length > 0:
                    with self.assertRaises(NoPlace):
                        classes.same(place, 0)
                    with self.assertRaises(NoPlace):
                        classes.same(0, place)

    def test_below_answers_for_the_length_too(self):
        for classes in self.songs():
            length = classes.length()
            self.assertEqual(classes.below(length), classes.count())
            for place in (-1, -FAR, length + 1, FAR):
                with self.assertRaises(NoPlace):
                    classes.below(place)
        self.assertEqual(Classes(0, []).below(0), 0)

    def test_numbers_of_firsts(self):
        for classes in self.songs():
            for k in (-1, -FAR, classes.count(), classes.count() + 1, FAR):
                with self.assertRaises(NoPlace):
                    classes.numbered(k)
            if classes.length() > 0:
                self.assertEqual(classes.numbered(0), 0)

    def test_images(self):
        for classes in self.songs():
            length = classes.length()
            for at, many in [(0, 0), (0, -1), (-1, 1), (-1, 2), (length, 1), (0, length + 1), (1, length),
                             (length, 0), (FAR, 1), (0, FAR), (-FAR, FAR), (FAR, -FAR)]:
                with self.subTest((length, at, many)):
                    with self.assertRaises(BadStretch):
                        classes.image(at, many)


if __name__ == "__main__":
    unittest.main()
