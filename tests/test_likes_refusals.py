"""What reprise.likes and reprise.small refuse, at which edge, and what first."""

import unittest

from reprise.errors import BadLength, BadStretch, NoPlace
from reprise.likes import alike, beat, mirror, parted
from reprise.small import each_first, leads, path, wrong
from tests.plain import FAR, GREATEST, bad_stretches

BAD_LENGTHS = (-1, -FAR, 10 ** 40, 10 ** 40 + 1, FAR)


def calls():
    """Calls of each function for a length and sayings, with a good question and with a bad one."""
    return [
        ("alike", lambda length, sayings: alike(length, sayings, 0, 1, 1, False)),
        ("alike badly", lambda length, sayings: alike(length, sayings, -1, FAR, 0, True)),
        ("parted", lambda length, sayings: parted(length, sayings, 0, 1, 1, True)),
        ("parted badly", lambda length, sayings: parted(length, sayings, -1, FAR, 0, True)),
        ("beat", lambda length, sayings: beat(length, sayings, 0, 2, 1)),
        ("beat badly", lambda length, sayings: beat(length, sayings, 0, -2, 1)),
        ("mirror", lambda length, sayings: mirror(length, sayings, 0, 2)),
        ("mirror badly", lambda length, sayings: mirror(length, sayings, 0, -2)),
        ("each_first", each_first),
        ("wrong", lambda length, sayings: wrong(length, sayings, [0, 1, 2, 3, 4])),
        ("path", lambda length, sayings: path(length, sayings, 0, 1)),
        ("path badly", lambda length, sayings: path(length, sayings, -1, FAR)),
        ("leads", lambda length, sayings: leads(length, sayings, 0, [])),
        ("leads badly", lambda length, sayings: leads(length, sayings, -1, [(7, 8)])),
    ]


class Songs(unittest.TestCase):
    def refused(self, kind, call, length, sayings):
        with self.assertRaises(kind) as caught:
            call(length, sayings)
        self.assertIs(type(caught.exception), kind)

    def test_lengths_come_first(self):
        for name, call in calls():
            for length in BAD_LENGTHS:
                for sayings in [[], [(0, 0, 0, False)], [(-1, 0, 1, False)], [(0, FAR, 1, True)]]:
                    with self.subTest((name, length, sayings)):
                        self.refused(BadLength, call, length, sayings)

    def test_then_stretches_of_sayings(self):
        good = (0, 1, 2, False)
        for name, call in calls():
            for length in (5, 400):
                for at, many in bad_stretches(length):
                    for bad in [(at, 0, many, False), (0, at, many, True), (at, at, many, True)]:
                        for sayings in [[bad], [good, bad], [bad, good], [good] * 23 + [bad]]:
                            with self.subTest((name, length, sayings)):
                                self.refused(BadStretch, call, length, sayings)

    def test_stretches_of_the_sayings_of_great_songs(self):
        for name, call in calls()[:8]:
            for at, many in bad_stretches(GREATEST):
                self.refused(BadStretch, call, GREATEST, [(at, 0, many, False)])
                self.refused(BadStretch, call, GREATEST, [(0, at, many, True)])

    def test_the_empty_song_has_no_stretch(self):
        for name, call in calls():
            for saying in [(0, 0, 0, False), (0, 0, 1, False), (0, 0, 1, True)]:
                self.refused(BadStretch, call, 0, [saying])


class Asking(unittest.TestCase):
    def test_stretches(self):
        for length in (0, 1, 5, 400, GREATEST):
            for at, many in bad_stretches(length):
                for turned in (False, True):
                    for ask in (alike, parted):
                        for one, other in [(at, 0), (0, at), (at, at)]:
                            with self.subTest((length, ask, one, other, many)):
                                with self.assertRaises(BadStretch):
                                    ask(length, [], one, other, many, turned)
                with self.assertRaises(BadStretch):
                    mirror(length, [], at, many)
                for step in (1, 2, length + 1, FAR):
                    with self.assertRaises(BadStretch):
                        beat(length, [], at, many, step)

    def test_stretches_up_to_the_edge(self):
        for length in (1, 5, GREATEST):
            for ask in (alike, parted):
                ask(length, [], 0, 0, length, False)
                ask(length, [], length - 1, 0, 1, True)
                ask(length, [], 0, length - 1, 1, False)
            self.assertIs(mirror(length, [], length - 1, 1), True)
            self.assertIs(mirror(length, [], 0, length), length == 1)
            self.assertIs(beat(length, [], 0, length, length), True)
            self.assertIs(beat(length, [], length - 1, 1, 1), True)

    def test_places(self):
        for length in (0, 1, 2, 5, 400):
            sayings = [(0, 1, length - 1, False)] if length > 1 else []
            for place in (-1, -FAR, length, length + 1, FAR):
                for steps in [[], [(0, 0)], [(9, 9)]]:
                    with self.subTest((length, place, steps)):
                        with self.assertRaises(NoPlace):
                            leads(length, sayings, place, steps)
                for one, other in [(place, place), (0, place), (place, 0)]:
                    with self.subTest((length, one, other)):
                        with self.assertRaises(NoPlace):
                            path(length, sayings, one, other)


if __name__ == "__main__":
    unittest.main()
