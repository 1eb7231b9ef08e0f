"""The refusals."""

import unittest

from reprise import errors

NAMES = ["BadLength", "BadStretch", "NoPlace", "NoNumber", "BadLetter", "Full", "InUse",
         "NothingLeft", "BadPage"]


class Refusals(unittest.TestCase):
    def test_any_refusal_is_a_value_error(self):
        self.assertEqual(errors.RepriseError.__bases__, (ValueError,))

    def test_each_stands_straight_under_the_common_one(self):
        for name in NAMES:
            with self.subTest(name):
                kind = getattr(errors, name)
                self.assertEqual(kind.__bases__, (errors.RepriseError,))
                self.assertTrue(issubclass(kind, ValueError))

    def test_none_is_another(self):
        for name in NAMES:
            for other in NAMES:
                if name != other:
                    with self.subTest(f"{name} {other}"):
                        self.assertFalse(issubclass(getattr(errors, name), getattr(errors, other)))

    def test_each_is_caught_by_its_name(self):
        for name in NAMES:
            if name != "BadPage":
                kind = getattr(errors, name)
                with self.assertRaises(kind):
                    raise kind("why")

    def test_a_bad_page_tells_its_row(self):
        for at in (0, 1, 17):
            with self.assertRaises(errors.BadPage) as caught:
                raise errors.BadPage(at)
            self.assertEqual(caught.exception.at, at)
            self.assertIs(type(caught.exception.at), int)


if __name__ == "__main__":
    unittest.main()
