import unittest

from tests.refusals import KINDS
from yearpledge.errors import PledgeError


class ErrorsTest(unittest.TestCase):
    def test_pledge_error_stands_straight_under_value_error(self):
        self.assertEqual(PledgeError.__bases__, (ValueError,))

    def test_each_refusal_stands_straight_under_pledge_error(self):
        for kind in KINDS:
            with self.subTest(kind=kind.__name__):
                self.assertEqual(kind.__bases__, (PledgeError,))

    def test_the_five_are_five(self):
        names = [kind.__name__ for kind in KINDS]
        self.assertEqual(names, ["BadTable", "BadRate", "BadPledge", "NoYear", "BadCount"])
        self.assertEqual(len(set(KINDS)), 5)

    def test_each_can_be_raised_and_taken_as_any_refusal(self):
        for kind in KINDS:
            with self.subTest(kind=kind.__name__):
                with self.assertRaises(PledgeError):
                    raise kind("words")


if __name__ == "__main__":
    unittest.main()
