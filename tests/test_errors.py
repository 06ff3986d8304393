import unittest

from weighvote import errors

UNDER = ("BadCouncil", "BadGroup", "NoMember", "Unlike", "BadWeights", "BadText")


class Errors(unittest.TestCase):
    def test_council_error_is_straight_under_value_error(self):
        self.assertEqual(errors.CouncilError.__bases__, (ValueError,))

    def test_each_refusal_is_straight_under_council_error(self):
        for name in UNDER:
            with self.subTest(name):
                self.assertEqual(getattr(errors, name).__bases__, (errors.CouncilError,))

    def test_the_refusals_are_six(self):
        self.assertEqual(len({getattr(errors, name) for name in UNDER}), 6)


if __name__ == "__main__":
    unittest.main()
