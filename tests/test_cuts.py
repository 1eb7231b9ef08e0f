"""The way to reckon: how sayings are kept, joined and carried, and what is cut off."""

import unittest

from reprise.cuts import carried, cuts_of, kept_form, taken_in
from tests.plain import GREATEST, great_songs


def beat(low, behind, step):
    """The saying that a stretch keeps a beat."""
    return (low, low + step, behind - low - step, False)


class Keeping(unittest.TestCase):
    def test_the_lesser_start_comes_first(self):
        self.assertEqual(kept_form(7, 2, 5, False), (2, 7, 5, False))
        self.assertEqual(kept_form(7, 2, 5, True), (2, 7, 5, True))
        self.assertEqual(kept_form(2, 4, 5, False), (2, 4, 5, False))

    def test_what_says_nothing_is_dropped(self):
        self.assertIsNone(kept_form(3, 3, 9, False))
        self.assertIsNone(kept_form(3, 3, 1, True))
        self.assertIsNone(kept_form(3, 8, 0, False))
        self.assertIsNone(kept_form(3, 8, 0, True))

    def test_turned_ones_that_overlap_are_halved(self):
        self.assertEqual(kept_form(3, 3, 8, True), (3, 7, 4, True))
        self.assertEqual(kept_form(3, 3, 9, True), (3, 8, 4, True))
        self.assertEqual(kept_form(3, 5, 4, True), (3, 6, 3, True))
        self.assertEqual(kept_form(4, 3, 4, True), (3, 6, 2, True))


class Joining(unittest.TestCase):
    def test_two_beats_in_common_become_one(self):
        self.assertEqual(taken_in([], [beat(0, 10, 4), beat(0, 10, 6)]), [beat(0, 10, 2)])
        self.assertEqual(taken_in([beat(0, 14, 4)], [beat(4, 20, 6)]), [beat(0, 20, 2)])
        self.assertEqual(taken_in([beat(4, 20, 6)], [beat(0, 14, 4)]), [beat(0, 20, 2)])
        self.assertEqual(taken_in([beat(0, GREATEST, 10 ** 38)], [beat(5, 10 ** 39, 3)]), [beat(0, GREATEST, 1)])

    def test_too_few_places_in_common(self):
        for one, other in [(beat(0, 9, 4), beat(0, 9, 6)), (beat(0, 13, 4), beat(4, 20, 6)),
                           (beat(0, 10, 2), beat(10, 20, 2))]:
            self.assertEqual(sorted(taken_in([one], [other])), sorted([one, other]))

    def test_turned_ones_are_not_joined(self):
        turned = (0, 10, 10, True)
        self.assertEqual(sorted(taken_in([turned], [beat(0, 20, 2)])), [beat(0, 20, 2), turned])
        self.assertEqual(sorted(taken_in([beat(0, 20, 2)], [turned])), [beat(0, 20, 2), turned])

    def test_what_was_joined_is_joined_again(self):
        self.assertEqual(taken_in([], [beat(0, 30, 12), beat(0, 30, 18), beat(16, 40, 8)]), [beat(0, 40, 2)])


class Carrying(unittest.TestCase):
    def test_by_as_many_leads_as_bring_the_start_below(self):
        leader = (10, 13, 20, False)
        self.assertEqual(carried(leader, (2, 20, 4, False)), (2, 11, 4, False))
        self.assertEqual(carried(leader, (2, 13, 4, True)), (2, 10, 4, True))
        self.assertEqual(carried(leader, (15, 20, 4, False)), (12, 11, 4, False))
        self.assertEqual(carried(leader, (12, 29, 4, False)), (12, 11, 4, False))

    def test_by_turning_once_for_each_stretch(self):
        leader = (10, 20, 6, True)
        self.assertEqual(carried(leader, (2, 21, 4, False)), (2, 11, 4, True))
        self.assertEqual(carried(leader, (2, 21, 4, True)), (2, 11, 4, False))
        self.assertEqual(carried(leader, (20, 21, 4, False)), (12, 11, 4, False))
        self.assertEqual(carried(leader, (20, 22, 2, True)), (14, 12, 2, True))
        self.assertEqual(carried(leader, (2, 19, 4, False)), (2, 19, 4, False))


class Cutting(unittest.TestCase):
    def test_each_place_lies_in_one_cut(self):
        for length, sayings in great_songs():
            cuts = cuts_of(length, sayings)
            self.assertEqual([cut[0] for cut in cuts], [0] + [cut[1] for cut in cuts[:-1]])
            self.assertEqual(cuts[-1][1], length)
            self.assertTrue(all(cut[0] < cut[1] for cut in cuts))

    def test_each_cut_leads_to_lesser_places(self):
        for length, sayings in great_songs():
            for low, behind, by, turned in cuts_of(length, sayings):
                if turned:
                    self.assertLess(by - low, low)
                    self.assertGreaterEqual(by - behind + 1, 0)
                else:
                    self.assertLessEqual(by, low)

    def test_few_cuts_are_needed(self):
        # Far more than any of these songs needs, and nothing beside their lengths.
        for length, sayings in great_songs():
            self.assertLess(len(cuts_of(length, sayings)), 5000)

    def test_the_empty_song_has_none(self):
        self.assertEqual(cuts_of(0, []), [])


if __name__ == "__main__":
    unittest.main()
