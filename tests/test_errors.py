import unittest

from namewants import errors

REFUSALS = ("BadName", "BadSides", "BadNumber", "BadLetter", "NoHouse", "NoWay", "NoLetter", "Gone", "BadStory")


class ErrorsTest(unittest.TestCase):
    def test_want_error_is_a_value_error(self):
        self.assertEqual(errors.WantError.__bases__, (ValueError,))

    def test_all_stand_under_want_error_alone(self):
        for name in REFUSALS:
            with self.subTest(name=name):
                self.assertEqual(getattr(errors, name).__bases__, (errors.WantError,))

    def test_gone_tells_its_house(self):
        for house in (0, 3, 7):
            with self.assertRaises(errors.Gone) as caught:
                raise errors.Gone(house)
            self.assertEqual(caught.exception.house, house)


if __name__ == "__main__":
    unittest.main()
