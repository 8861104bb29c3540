import unittest
from fractions import Fraction

from tests.refusals import RefusalCase
from tests.samples import (
    BAD_RATES, LONG, NOBODY_EARLY, ONE_AGE, RATES, SMALL, TABLES, THREE_AGES, TWENTY, as_fraction, as_part,
    chance_to_live, is_part)
from yearpledge.couples import both_live, either_lives, paid, paid_both, paid_either
from yearpledge.errors import BadRate, NoYear
from yearpledge.tables import Table


def couples():
    """Tables, two ages alike and not alike, and years: none, to the table's end, and beyond it."""
    for chances in TABLES:
        many = len(chances)
        ages = sorted({0, 1, many // 2, many - 1} & set(range(many)))
        for one in ages:
            for other in ages:
                for years in sorted({0, 1, 2, many - one, many - 1, many, many + 1, many + 30}):
                    yield chances, one, other, years


class LivesTest(RefusalCase):
    def test_by_hand(self):
        table = Table(THREE_AGES)
        self.assertEqual(both_live(table, 0, 1, 1), (3, 8))
        self.assertEqual(either_lives(table, 0, 1, 1), (7, 8))
        self.assertEqual(both_live(table, 0, 1, 2), (0, 1))
        self.assertEqual(either_lives(table, 0, 1, 2), (3, 8))
        self.assertEqual(both_live(table, 0, 1, 3), (0, 1))
        self.assertEqual(either_lives(table, 0, 1, 3), (0, 1))

    def test_two_of_one_age_are_still_two(self):
        table = Table(THREE_AGES)
        self.assertEqual(both_live(table, 0, 0, 1), (9, 16))
        self.assertEqual(either_lives(table, 0, 0, 1), (15, 16))

    def test_no_years(self):
        for chances in TABLES:
            for one in range(len(chances)):
                for other in range(len(chances)):
                    self.assertEqual(both_live(Table(chances), one, other, 0), (1, 1))
                    self.assertEqual(either_lives(Table(chances), one, other, 0), (1, 1))

    def test_every_couple(self):
        for chances, one, other, years in couples():
            with self.subTest(chances=chances, one=one, other=other, years=years):
                table = Table(chances)
                first = chance_to_live(chances, one, years)
                second = chance_to_live(chances, other, years)
                both = both_live(table, one, other, years)
                either = either_lives(table, one, other, years)
                self.assertTrue(is_part(both) and is_part(either))
                self.assertEqual(both, as_part(first * second))
                self.assertEqual(either, as_part(1 - (1 - first) * (1 - second)))
                self.assertEqual(as_fraction(both) + as_fraction(either), first + second)
                self.assertEqual(both, both_live(table, other, one, years))
                self.assertEqual(either, either_lives(table, other, one, years))

    def test_very_many_years(self):
        for years in (10 ** 30, LONG):
            self.assertEqual(both_live(Table(SMALL), 0, 2, years), (0, 1))
            self.assertEqual(either_lives(Table(SMALL), 0, 2, years), (0, 1))


class PaidTest(RefusalCase):
    def test_by_hand(self):
        table = Table(THREE_AGES)
        # 1; 3/4 * 9/10; 3/8 * 81/100.
        self.assertEqual([paid(table, (9, 10), 0, years) for years in range(5)],
                         [(0, 1), (1, 1), (67, 40), (1583, 800), (1583, 800)])
        self.assertEqual([paid(table, (1, 1), 1, years) for years in range(4)], [(0, 1), (1, 1), (3, 2), (3, 2)])
        self.assertEqual([paid(table, (1, 2), 2, years) for years in range(3)], [(0, 1), (1, 1), (1, 1)])

    def test_two_by_hand(self):
        table = Table(THREE_AGES)
        # Both: 1, 3/8, none. At least one: 1, 7/8, 3/8.
        self.assertEqual([paid_both(table, (2, 4), 0, 1, years) for years in range(4)],
                         [(0, 1), (1, 1), (19, 16), (19, 16)])
        self.assertEqual([paid_either(table, (2, 4), 0, 1, years) for years in range(5)],
                         [(0, 1), (1, 1), (23, 16), (49, 32), (49, 32)])

    def test_nobody_dies_early(self):
        table = Table(NOBODY_EARLY)
        self.assertEqual(paid(table, (1, 2), 0, 10), (15, 8))
        self.assertEqual(paid_both(table, (1, 2), 0, 2, 10), (3, 2))
        self.assertEqual(paid_either(table, (1, 2), 0, 2, 10), (15, 8))
        self.assertEqual(paid_either(Table(ONE_AGE), (1, 2), 0, 0, 10), (1, 1))

    def test_every_couple(self):
        for rate in RATES[1:5]:
            for chances, one, other, years in couples():
                table = Table(chances)
                asked = [Fraction(0)] * 4
                for year in range(years):
                    coin = Fraction(*rate) ** year
                    first = chance_to_live(chances, one, year)
                    second = chance_to_live(chances, other, year)
                    for place, chance in enumerate((first, second, first * second, 1 - (1 - first) * (1 - second))):
                        asked[place] += chance * coin
                told = [paid(table, rate, one, years), paid(table, rate, other, years),
                        paid_both(table, rate, one, other, years), paid_either(table, rate, one, other, years)]
                with self.subTest(chances=chances, rate=rate, one=one, other=other, years=years):
                    self.assertEqual([is_part(worth) for worth in told], [True] * 4)
                    self.assertEqual(told, [as_part(worth) for worth in asked])
                    self.assertEqual(asked[0] + asked[1], as_fraction(told[2]) + as_fraction(told[3]))
                    self.assertEqual(told[2], paid_both(table, rate, other, one, years))
                    self.assertEqual(told[3], paid_either(table, rate, other, one, years))

    def test_very_many_years(self):
        table = Table(SMALL)
        for years in (10 ** 30, LONG):
            self.assertEqual(paid(table, (9, 10), 1, years), paid(table, (9, 10), 1, 4))
            self.assertEqual(paid_both(table, (9, 10), 1, 0, years), paid_both(table, (9, 10), 1, 0, 4))
            self.assertEqual(paid_either(table, (9, 10), 1, 0, years), paid_either(table, (9, 10), 1, 0, 5))


class RefusalsTest(RefusalCase):
    def assert_all_refused(self, table, one, other, years):
        for asked in (both_live, either_lives):
            self.assert_refused(NoYear, asked, table, one, other, years)
            self.assert_refused(NoYear, asked, table, other, one, years)
        for asked in (paid_both, paid_either):
            for rate in ((1, 1), (18, 20), (1, 10000)):
                self.assert_refused(NoYear, asked, table, rate, one, other, years)
                self.assert_refused(NoYear, asked, table, rate, other, one, years)

    def test_ages_that_the_table_has_not(self):
        for chances in (ONE_AGE, SMALL, TWENTY):
            table = Table(chances)
            many = len(chances)
            for bad in (-1, -2, -many, -many - 1, many, many + 1, many + 50, LONG, -LONG):
                for years in (0, 1, 2, many, many + 5, -1):
                    self.assert_refused(NoYear, paid, table, (9, 10), bad, years)
                    for good in (0, many - 1):
                        self.assert_all_refused(table, bad, good, years)
                    self.assert_all_refused(table, bad, bad, years)

    def test_years_below_nought(self):
        for chances in (ONE_AGE, SMALL, TWENTY):
            table = Table(chances)
            last = len(chances) - 1
            for years in (-1, -2, -len(chances), -100, -LONG):
                for age in (0, last):
                    self.assert_refused(NoYear, paid, table, (9, 10), age, years)
                    self.assert_all_refused(table, age, last, years)

    def test_bad_rate_first(self):
        table = Table(SMALL)
        for rate in BAD_RATES:
            for age, other, years in ((0, 1, 2), (0, 1, 0), (-1, 0, 1), (0, -1, 1), (5, 0, 0), (0, 5, 0), (0, 0, -1),
                                      (-1, 5, -1)):
                self.assert_refused(BadRate, paid, table, rate, age, years)
                self.assert_refused(BadRate, paid_both, table, rate, age, other, years)
                self.assert_refused(BadRate, paid_either, table, rate, age, other, years)


if __name__ == "__main__":
    unittest.main()
