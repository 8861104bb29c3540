import unittest
from fractions import Fraction
from math import gcd

from yearpledge.parts import less, over, part, plus, summed, times

LONG = 10 ** 60 + 7
TOPS = (0, 1, -1, 2, -3, 6, -8, 12, 97, -100, 10000, -9999, LONG, -LONG, 6 * LONG)
UNDERS = (1, -1, 2, -2, 3, 4, -6, 12, -97, 9999, 10000, LONG, -LONG, -4 * LONG)
PARTS = ((0, 1), (1, 1), (-1, 1), (1, 2), (-1, 2), (2, 3), (-5, 6), (7, 1), (-12, 1), (9999, 10000),
         (-LONG, 10000), (3, LONG), (LONG, 3), (-3, LONG))


class PartsCase(unittest.TestCase):
    def assert_part(self, told, asked):
        self.assertIs(type(told), tuple)
        self.assertEqual(len(told), 2)
        self.assertIs(type(told[0]), int)
        self.assertIs(type(told[1]), int)
        self.assertGreaterEqual(told[1], 1)
        self.assertEqual(gcd(told[0], told[1]), 1)
        self.assertEqual(told, (asked.numerator, asked.denominator))


class PartTest(PartsCase):
    def test_every_top_over_every_under(self):
        for top in TOPS:
            for under in UNDERS:
                with self.subTest(top=top, under=under):
                    self.assert_part(part(top, under), Fraction(top, under))

    def test_lowest_terms(self):
        self.assertEqual(part(6, 4), (3, 2))
        self.assertEqual(part(4, 6), (2, 3))
        self.assertEqual(part(3, 7), (3, 7))
        self.assertEqual(part(12, 4), (3, 1))
        self.assertEqual(part(5, 5), (1, 1))

    def test_nought_is_nought_over_one(self):
        for under in UNDERS:
            with self.subTest(under=under):
                self.assertEqual(part(0, under), (0, 1))

    def test_the_sign_stands_at_the_top(self):
        self.assertEqual(part(-6, 4), (-3, 2))
        self.assertEqual(part(6, -4), (-3, 2))
        self.assertEqual(part(-6, -4), (3, 2))
        self.assertEqual(part(1, -1), (-1, 1))
        self.assertEqual(part(-5, -5), (1, 1))

    def test_many_figures(self):
        self.assertEqual(part(6 * LONG, -4 * LONG), (-3, 2))
        self.assertEqual(part(LONG, LONG * LONG), (1, LONG))
        self.assertEqual(part(10 ** 400, -(10 ** 399)), (-10, 1))


class TwoPartsTest(PartsCase):
    def test_every_two_parts(self):
        for one in PARTS:
            for other in PARTS:
                with self.subTest(one=one, other=other):
                    self.assert_part(plus(one, other), Fraction(*one) + Fraction(*other))
                    self.assert_part(less(one, other), Fraction(*one) - Fraction(*other))
                    self.assert_part(times(one, other), Fraction(*one) * Fraction(*other))

    def test_over_every_part_but_nought(self):
        for one in PARTS:
            for other in PARTS:
                if other != (0, 1):
                    with self.subTest(one=one, other=other):
                        self.assert_part(over(one, other), Fraction(*one) / Fraction(*other))

    def test_plus(self):
        self.assertEqual(plus((1, 2), (1, 3)), (5, 6))
        self.assertEqual(plus((1, 6), (1, 3)), (1, 2))
        self.assertEqual(plus((1, 2), (-1, 2)), (0, 1))
        self.assertEqual(plus((1, 4), (7, 4)), (2, 1))

    def test_less_takes_the_second_from_the_first(self):
        self.assertEqual(less((1, 2), (1, 3)), (1, 6))
        self.assertEqual(less((1, 3), (1, 2)), (-1, 6))
        self.assertEqual(less((5, 7), (5, 7)), (0, 1))
        self.assertEqual(less((0, 1), (5, 7)), (-5, 7))

    def test_times(self):
        self.assertEqual(times((2, 3), (3, 4)), (1, 2))
        self.assertEqual(times((-2, 3), (3, 2)), (-1, 1))
        self.assertEqual(times((-2, 3), (-3, 2)), (1, 1))
        self.assertEqual(times((5, 7), (0, 1)), (0, 1))

    def test_over_takes_the_first_by_the_second(self):
        self.assertEqual(over((1, 2), (1, 3)), (3, 2))
        self.assertEqual(over((1, 2), (-1, 3)), (-3, 2))
        self.assertEqual(over((-1, 2), (-1, 4)), (2, 1))
        self.assertEqual(over((0, 1), (-4, 5)), (0, 1))


class SummedTest(PartsCase):
    def test_of_none_is_nought(self):
        self.assertEqual(summed([]), (0, 1))

    def test_of_one(self):
        for one in PARTS:
            with self.subTest(one=one):
                self.assert_part(summed([one]), Fraction(*one))

    def test_of_several(self):
        self.assertEqual(summed([(1, 2), (1, 3), (1, 6)]), (1, 1))
        self.assertEqual(summed([(1, 2), (-1, 3), (-1, 6)]), (0, 1))
        self.assertEqual(summed([(1, 3), (1, 3)]), (2, 3))
        self.assertEqual(summed([(-5, 6), (1, 3), (0, 1), (-7, 1)]), (-15, 2))
        self.assert_part(summed(list(PARTS)), sum(Fraction(*one) for one in PARTS))

    def test_of_many(self):
        row = [(1, under) for under in range(1, 201)]
        self.assert_part(summed(row), sum(Fraction(*one) for one in row))

    def test_the_list_stays_as_it_was(self):
        row = [(1, 2), (-1, 3), (0, 1)]
        summed(row)
        self.assertEqual(row, [(1, 2), (-1, 3), (0, 1)])

    def test_the_same_list_tells_the_same_twice(self):
        row = [(1, 2), (1, 3)]
        self.assertEqual(summed(row), (5, 6))
        self.assertEqual(summed(row), (5, 6))


if __name__ == "__main__":
    unittest.main()
