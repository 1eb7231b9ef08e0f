"""Stretches alike, beats and mirrors of songs far too long to be gone through."""

import math
import random
import unittest

from reprise.classes import Classes
from reprise.likes import alike, beat, mirror, parted
from tests.blocks import some_block_songs
from tests.plain import GREATEST, exchanged_pieces, great_songs, some_saying

HALF = GREATEST // 2


class Blocks(unittest.TestCase):
    def asked_of(self, chance, song):
        """Whole blocks, blocks of the sayings, and stretches that begin and end anywhere."""
        blocks = song.length // song.size
        one, other, many, turned = some_saying(chance, blocks, blocks)
        yield one * song.size, other * song.size, many * song.size, turned
        yield some_saying(chance, song.length, song.length)
        yield some_saying(chance, song.length, 2 * song.size)
        one, other, many, turned = chance.choice(song.sayings)
        yield one, other, many, turned
        yield other, one, many, not turned
        room = song.length - max(one, other) - many
        yield one, other, many + chance.randint(0, room), turned
        if turned and other > 0 and one + many < song.length:
            yield one, other - 1, many + 1, turned

    def test_where_they_part(self):
        chance = random.Random(51)
        seen = {"nowhere": 0, "at once": 0, "later": 0}
        for song in some_block_songs(52, 30):
            for one, other, many, turned in self.asked_of(chance, song):
                with self.subTest(f"{song.length} {song.sayings} {one} {other} {many} {turned}"):
                    where = song.parted(one, other, many, turned)
                    self.assertEqual(parted(song.length, song.sayings, one, other, many, turned), where)
                    self.assertIs(alike(song.length, song.sayings, one, other, many, turned), where is None)
                seen["nowhere" if where is None else "later" if where else "at once"] += 1
        self.assertGreater(min(seen.values()), 100)

    def test_beats_and_mirrors(self):
        chance = random.Random(53)
        seen = {True: 0, False: 0}
        for song in some_block_songs(54, 30):
            for at, other, many, turned in self.asked_of(chance, song):
                with self.subTest(f"{song.length} {song.sayings} {at} {many}"):
                    is_one = song.parted(at, at, many, True) is None
                    self.assertIs(mirror(song.length, song.sayings, at, many), is_one)
                    for step in (1, song.size, abs(at - other), many - 1, many, many + 1):
                        if step > 0:
                            keeps = step >= many or song.parted(at, at + step, many - step, False) is None
                            self.assertIs(beat(song.length, song.sayings, at, many, step), keeps)
                            seen[keeps] += 1
        self.assertGreater(min(seen.values()), 100)


class Parted(unittest.TestCase):
    def others(self, chance):
        """Sayings within the first half of the greatest song; none of them says much of the rest."""
        return [[], [some_saying(chance, HALF, 10 ** 37) for _ in range(3)],
                [some_saying(chance, HALF, 10 ** chance.randint(1, 38)) for _ in range(22)]]

    def test_at_the_first_at_the_last_in_the_middle_and_nowhere(self):
        chance = random.Random(55)
        for others in self.others(chance):
            for size in (0, 1, 2, 10 ** 20, HALF // 2, HALF - 2, HALF - 1, HALF):
                straight = others + ([(0, HALF, size, False)] if size > 0 else [])
                turned = others + ([(0, 2 * HALF - size, size, True)] if size > 0 else [])
                where = size if size < HALF else None
                with self.subTest((len(others), size)):
                    self.assertEqual(parted(GREATEST, straight, 0, HALF, HALF, False), where)
                    self.assertEqual(parted(GREATEST, turned, 0, HALF, HALF, True), where)
                    self.assertIs(alike(GREATEST, straight, 0, HALF, HALF, False), size == HALF)
                    self.assertIs(alike(GREATEST, turned, 0, HALF, HALF, True), size == HALF)

    def test_at_a_single_place_alone(self):
        # No place but this one tells that they part.
        chance = random.Random(56)
        for others in self.others(chance):
            for hole in (0, 1, HALF // 2, chance.randrange(HALF), HALF - 2, HALF - 1):
                rows = [(0, hole), (hole + 1, HALF - hole - 1)]
                straight = others + [(at, HALF + at, many, False) for at, many in rows if many > 0]
                turned = others + [(at, 2 * HALF - at - many, many, True) for at, many in rows if many > 0]
                with self.subTest((len(others), hole)):
                    self.assertEqual(parted(GREATEST, straight, 0, HALF, HALF, False), hole)
                    self.assertEqual(parted(GREATEST, turned, 0, HALF, HALF, True), hole)
                    self.assertIs(alike(GREATEST, straight, 0, HALF, HALF, False), False)
                    for at, many in rows:
                        if many > 0:
                            self.assertIs(alike(GREATEST, straight, at, HALF + at, many, False), True)

    def test_at_one_of_two_places(self):
        low, high = 10 ** 30, 10 ** 39
        rows = [(0, low), (low + 1, high - low - 1), (high + 1, HALF - high - 1)]
        sayings = [(at, HALF + at, many, False) for at, many in rows]
        self.assertEqual(parted(GREATEST, sayings, 0, HALF, HALF, False), low)
        self.assertEqual(parted(GREATEST, sayings, low + 1, HALF + low + 1, HALF - low - 1, False), high - low - 1)
        self.assertIsNone(parted(GREATEST, sayings, high + 1, HALF + high + 1, HALF - high - 1, False))

    def test_what_sayings_say_is_so(self):
        for length, sayings in great_songs():
            for one, other, many, turned in sayings[:3]:
                self.assertIs(alike(length, sayings, one, other, many, turned), True)
                self.assertIsNone(parted(length, sayings, other, one, many, turned))

    def test_what_is_parted_is_not_alike_there(self):
        chance = random.Random(57)
        for length, sayings in great_songs():
            one, other, many, turned = some_saying(chance, length, 10 ** chance.randint(1, 40))
            where = parted(length, sayings, one, other, many, turned)
            if where is not None:
                classes = Classes(length, sayings)
                to = other + many - 1 - where if turned else other + where
                self.assertIs(classes.same(one + where, to), False)
                if where > 0:
                    start = other + many - where if turned else other
                    self.assertIs(alike(length, sayings, one, start, where, turned), True)

    def test_a_song_of_exchanged_pieces_told_twice(self):
        sayings = exchanged_pieces(random.Random(58), HALF, 12, 0)
        hole = 10 ** 38
        sayings += [(0, HALF, hole, False), (hole + 1, HALF + hole + 1, HALF - hole - 1, False)]
        self.assertEqual(parted(GREATEST, sayings, 0, HALF, HALF, False), hole)


class Beats(unittest.TestCase):
    def test_what_keeps_two_beats(self):
        for t, u in [(10 ** 38, 3 * 10 ** 37 + 1), (6 * 10 ** 38, 10 ** 39 - 10 ** 20), (2 ** 120, 2 ** 110 * 3)]:
            least = math.gcd(t, u)
            for many in (t + u, t + u + 10 ** 38):
                sayings = [(5, 5 + t, many - t, False), (5, 5 + u, many - u, False)]
                with self.subTest((t, u, many)):
                    for step in (t, u, least, 2 * least, many, many + 1, 10 ** 45 - 1):
                        self.assertIs(beat(GREATEST, sayings, 5, many, step), True)
                    self.assertIs(beat(GREATEST, sayings, 5, many, least + 1), least == 1)
                    self.assertIs(beat(GREATEST, sayings, 4, many + 1, least), False)
                    self.assertIs(beat(GREATEST, sayings, 5, many + 1, least), False)

    def test_at_below_and_above_the_length(self):
        for many in (1, 2, 10 ** 39, GREATEST):
            for step in (many, many + 1, 10 ** 44):
                self.assertIs(beat(GREATEST, [], GREATEST - many, many, step), True)
            if many > 1:
                self.assertIs(beat(GREATEST, [], GREATEST - many, many, many - 1), False)
                self.assertIs(beat(GREATEST, [(GREATEST - many, GREATEST - 1, 1, False)],
                                   GREATEST - many, many, many - 1), True)

    def test_mirrors(self):
        for many in (2, 3, 10 ** 39, GREATEST):
            sayings = [(0, 0, many, True)]
            self.assertIs(mirror(GREATEST, sayings, 0, many), True)
            self.assertIs(mirror(GREATEST, [], 0, many), False)
            self.assertIs(mirror(GREATEST, sayings, 0, many - 1), many == 2)
        self.assertIs(mirror(GREATEST, [(0, 0, GREATEST, True)], 7, GREATEST - 14), True)
        self.assertIs(mirror(GREATEST, [(0, 0, GREATEST, True)], 7, GREATEST - 13), False)

    def test_two_mirrors_make_a_beat(self):
        for step in (1, 3, 10 ** 20, 10 ** 38 + 7):
            sayings = [(0, 0, GREATEST, True), (0, 0, GREATEST - step, True)]
            self.assertIs(beat(GREATEST, sayings, 0, GREATEST, step), True)
            self.assertIs(beat(GREATEST, sayings, 0, GREATEST, step + 1), step == 1)


if __name__ == "__main__":
    unittest.main()
