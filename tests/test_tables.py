import unittest
from fractions import Fraction
from math import gcd

from tests.refusals import RefusalCase
from tests.samples import BAD_RATES, LONG, RATES, SMALL, TABLES, as_part, chance_to_live
from yearpledge.errors import BadRate, BadTable, NoYear
from yearpledge.tables import Table, later, worth_now


class TableTest(RefusalCase):
    def test_ages(self):
        self.assertEqual([Table(chances).ages() for chances in TABLES], [1, 1, 2, 4, 5, 5, 20])

    def test_dies_in_lowest_terms(self):
        table = Table(SMALL)
        self.assertEqual([table.dies(age) for age in range(5)], [(1, 4), (1, 2), (0, 1), (3, 1000), (1, 1)])

    def test_dies_at_every_age(self):
        for chances in TABLES:
            table = Table(chances)
            for age, chance in enumerate(chances):
                with self.subTest(chances=chances, age=age):
                    told = table.dies(age)
                    self.assertIs(type(told), tuple)
                    self.assertEqual(told, as_part(Fraction(*chance)))

    def test_lives(self):
        table = Table(SMALL)
        self.assertEqual(table.lives(0, 1), (3, 4))
        self.assertEqual(table.lives(0, 2), (3, 8))
        self.assertEqual(table.lives(1, 2), (1, 2))
        self.assertEqual(table.lives(2, 1), (1, 1))
        self.assertEqual(table.lives(0, 4), (2991, 8000))

    def test_lives_no_years(self):
        for chances in TABLES:
            for age in range(len(chances)):
                with self.subTest(chances=chances, age=age):
                    self.assertEqual(Table(chances).lives(age, 0), (1, 1))

    def test_lives_to_the_end_at_it_and_beyond_it(self):
        table = Table(SMALL)
        self.assertEqual(table.lives(3, 1), (997, 1000))
        for years in (2, 3, 20, 10 ** 30):
            with self.subTest(years=years):
                self.assertEqual(table.lives(3, years), (0, 1))
        self.assertEqual(table.lives(4, 1), (0, 1))
        self.assertEqual(table.lives(0, 5), (0, 1))
        self.assertEqual(Table([(1, 1)]).lives(0, 1), (0, 1))

    def test_lives_at_every_age_for_all_years(self):
        for chances in TABLES:
            table = Table(chances)
            for age in range(len(chances)):
                for years in range(len(chances) + 3):
                    with self.subTest(chances=chances, age=age, years=years):
                        told = table.lives(age, years)
                        self.assertIs(type(told), tuple)
                        self.assertEqual(told, as_part(chance_to_live(chances, age, years)))

    def test_what_is_asked_changes_nothing(self):
        table = Table(SMALL)
        for turn in range(2):
            self.assertEqual(table.lives(0, 4), (2991, 8000))
            self.assertEqual(table.dies(1), (1, 2))
            self.assertEqual(table.ages(), 5)

    def test_tables_do_not_hang_on_one_another(self):
        first = Table(SMALL)
        second = Table([(1, 3), (1, 1)])
        self.assertEqual(first.ages(), 5)
        self.assertEqual(first.dies(0), (1, 4))
        self.assertEqual(second.ages(), 2)
        self.assertEqual(second.dies(0), (1, 3))

    def test_the_list_handed_in_stays(self):
        handed = list(SMALL)
        table = Table(handed)
        table.dies(1)
        table.lives(0, 3)
        self.assertEqual(handed, SMALL)

    def test_a_list_changed_later_changes_nothing(self):
        handed = list(SMALL)
        table = Table(handed)
        handed[0] = (1, 9)
        handed.append((1, 1))
        self.assertEqual(table.ages(), 5)
        self.assertEqual(table.dies(0), (1, 4))
        self.assertEqual(table.lives(0, 2), (3, 8))
        handed.clear()
        self.assertEqual(table.ages(), 5)
        self.assertEqual(table.dies(4), (1, 1))

    def test_a_refused_list_stays(self):
        handed = [(2, 4), (1, 2)]
        self.assert_refused(BadTable, Table, handed)
        self.assertEqual(handed, [(2, 4), (1, 2)])


class BadTableTest(RefusalCase):
    def assert_bad(self, *tables):
        for chances in tables:
            with self.subTest(ages=len(chances)):
                self.assert_refused(BadTable, Table, chances)

    def test_no_age(self):
        self.assert_bad([])

    def test_more_than_twenty_ages(self):
        self.assertEqual(Table([(0, 1)] * 19 + [(1, 1)]).ages(), 20)
        self.assert_bad([(0, 1)] * 20 + [(1, 1)], [(1, 2)] * 40 + [(1, 1)])

    def test_top_below_nought(self):
        self.assert_bad([(-1, 2), (1, 1)], [(1, 3), (-1, 2), (1, 1)], [(-1, 1)])

    def test_top_above_its_under(self):
        self.assert_bad([(3, 2), (1, 1)], [(2, 1)], [(1, 3), (10001, 10000), (1, 1)])

    def test_under_of_nought(self):
        self.assert_bad([(0, 0)], [(0, 0), (1, 1)], [(1, 0), (1, 1)], [(-1, 0), (1, 1)])

    def test_under_below_nought(self):
        self.assert_bad([(-1, -1)], [(-1, -2), (1, 1)], [(-2, -1), (1, 1)], [(0, -5), (1, 1)], [(1, -2), (1, 1)])

    def test_under_above_ten_thousand(self):
        self.assertEqual(Table([(1, 10000), (10000, 10000)]).dies(0), (1, 10000))
        self.assert_bad([(1, 10001), (1, 1)], [(0, 10001), (1, 1)], [(10001, 10001)], [(1, 2), (20000, 20000)],
                        [(5000, 20000), (1, 1)])

    def test_last_chance_that_is_not_one(self):
        self.assert_bad([(0, 1)], [(1, 2)], [(1, 2), (9999, 10000)], [(0, 1)] * 20)

    def test_chance_of_one_ahead_of_the_last(self):
        self.assert_bad([(1, 1), (1, 1)], [(1, 2), (7, 7), (1, 2), (1, 1)], [(1, 2), (3, 3), (1, 1)])

    def test_numbers_of_very_many_figures(self):
        self.assert_bad([(1, LONG), (1, 1)], [(LONG, 2), (1, 1)], [(-LONG, 2), (1, 1)], [(1, -LONG), (1, 1)],
                        [(LONG, LONG)])


class NoYearTest(RefusalCase):
    def test_ages_that_the_table_has_not(self):
        for chances in TABLES:
            table = Table(chances)
            many = len(chances)
            for age in (-1, -2, -many, -many - 1, many, many + 1, many + 100, LONG, -LONG):
                self.assert_refused(NoYear, table.dies, age)
                for years in (0, 1, -age if -10 < age < 0 else 3):
                    self.assert_refused(NoYear, table.lives, age, years)

    def test_years_below_nought(self):
        for chances in TABLES:
            table = Table(chances)
            for age in range(len(chances)):
                for years in (-1, -2, -100, -LONG):
                    self.assert_refused(NoYear, table.lives, age, years)

    def test_age_and_years_both(self):
        self.assert_refused(NoYear, Table(SMALL).lives, -1, -1)
        self.assert_refused(NoYear, Table(SMALL).lives, 5, -1)


class LaterTest(RefusalCase):
    def test_no_years(self):
        for rate in ((1, 1), (9, 10), (2, 4), (1, 10000), (10000, 10000)):
            with self.subTest(rate=rate):
                self.assertEqual(later(rate, 0), (1, 1))

    def test_one_year_is_the_rate_in_lowest_terms(self):
        self.assertEqual(later((9, 10), 1), (9, 10))
        self.assertEqual(later((2, 4), 1), (1, 2))
        self.assertEqual(later((9500, 10000), 1), (19, 20))

    def test_several_years(self):
        self.assertEqual(later((9, 10), 2), (81, 100))
        self.assertEqual(later((6, 9), 3), (8, 27))
        self.assertEqual(later((2, 10000), 4), (1, 5000 ** 4))

    def test_a_rate_of_one(self):
        for rate in ((1, 1), (7, 7), (10000, 10000)):
            for years in (0, 1, 20, 500):
                with self.subTest(rate=rate, years=years):
                    self.assertEqual(later(rate, years), (1, 1))

    def test_under_of_ten_thousand(self):
        self.assertEqual(later((1, 10000), 3), (1, 10 ** 12))
        self.assertEqual(later((9999, 10000), 2), (9999 ** 2, 10000 ** 2))

    def test_many_years(self):
        for rate in ((9, 10), (6, 8), (9999, 10000), (9500, 10000)):
            for years in (20, 39, 200, 1000):
                with self.subTest(rate=rate, years=years):
                    told = later(rate, years)
                    self.assertIs(type(told), tuple)
                    self.assertEqual(gcd(told[0], told[1]), 1)
                    self.assertTrue(told == as_part(Fraction(*rate) ** years))


class WorthNowTest(RefusalCase):
    def test_of_nothing(self):
        self.assertEqual(worth_now((9, 10), []), (0, 1))

    def test_each_part_is_worth_the_rate_so_many_times(self):
        row = [(1, 2), (-3, 1), (0, 1), (5, 7)]
        for rate in RATES:
            asked = sum(Fraction(*one) * Fraction(*rate) ** year for year, one in enumerate(row))
            self.assertEqual(worth_now(rate, row), as_part(asked))
        self.assertEqual(row, [(1, 2), (-3, 1), (0, 1), (5, 7)])


class BadRateTest(RefusalCase):
    def test_what_is_no_rate(self):
        for rate in BAD_RATES:
            for years in (0, 1, 5):
                self.assert_refused(BadRate, later, rate, years)

    def test_bad_rate_ahead_of_no_year(self):
        for rate in BAD_RATES:
            self.assert_refused(BadRate, later, rate, -1)

    def test_years_below_nought(self):
        for rate in ((1, 1), (9, 10), (2, 4), (1, 10000), (10000, 10000)):
            for years in (-1, -2, -50, -LONG):
                self.assert_refused(NoYear, later, rate, years)


if __name__ == "__main__":
    unittest.main()
