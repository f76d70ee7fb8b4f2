import unittest

from countgen import errors

PLAIN = ("NoNote", "Crowded", "Twice", "NoRange", "NoName", "NoDraw", "NoBreach")
WITH_FIELDS = {
    "NoGround": {"ring": ["b", "a"]},
    "NoValue": {"value": [1, [2]]},
    "NoNumber": {"number": -1, "count": 7},
    "TooMany": {"count": 401, "most": 400},
    "Astray": {"mark": "plus"},
}


class ErrorsTest(unittest.TestCase):
    def test_count_error_is_a_value_error(self):
        self.assertEqual(errors.CountError.__bases__, (ValueError,))

    def test_each_class_stands_straight_under_count_error(self):
        for name in [*PLAIN, *WITH_FIELDS]:
            with self.subTest(name):
                self.assertEqual(getattr(errors, name).__bases__, (errors.CountError,))

    def test_each_class_is_another_one(self):
        classes = {getattr(errors, name) for name in [*PLAIN, *WITH_FIELDS]}
        self.assertEqual(len(classes), 12)

    def test_plain_ones_are_made_of_words(self):
        for name in PLAIN:
            with self.subTest(name):
                self.assertEqual(str(getattr(errors, name)("some words")), "some words")

    def test_fields_are_set_when_made(self):
        for name, fields in WITH_FIELDS.items():
            with self.subTest(name):
                error = getattr(errors, name)(*fields.values())
                for field, value in fields.items():
                    self.assertIs(getattr(error, field), value)
                self.assertNotEqual(str(error), "")


if __name__ == "__main__":
    unittest.main()
