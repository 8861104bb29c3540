import unittest
from fractions import Fraction
from math import lcm

from tests.refusals import RefusalCase
from tests.samples import (
    BAD_RATES, LONG, NOBODY_EARLY, ONE_AGE, SMALL, TABLES, TEN_THOUSANDS, THREE_AGES, THREE_ROWS, TWENTY, TWENTY_ROWS,
    as_fraction, as_part, asked_pledges, cases, chance_to_live, is_part)
from yearpledge.books import book, fewest
from yearpledge.errors import BadCount, BadPledge, BadRate
from yearpledge.pledges import Pledge
from yearpledge.tables import Table, later
from yearpledge.worths import income, outgo


class FewestTest(RefusalCase):
    def test_by_hand(self):
        table = Table(THREE_AGES)
        self.assertEqual(fewest(table, Pledge(0, THREE_ROWS)), 8)
        self.assertEqual(fewest(table, Pledge(0, THREE_ROWS[:2])), 8)
        self.assertEqual(fewest(table, Pledge(0, THREE_ROWS[:1])), 4)
        self.assertEqual(fewest(table, Pledge(1, THREE_ROWS[:2])), 2)
        self.assertEqual(fewest(table, Pledge(2, THREE_ROWS[:1])), 1)

    def test_the_end_counts(self):
        self.assertEqual(fewest(Table([(1, 7), (1, 1)]), Pledge(0, [(0, 0, 0)])), 7)

    def test_an_under_of_an_earlier_year_that_a_later_one_has_not(self):
        # 2/3 live at the second year, 1/2 at the third: neither under goes into the other.
        self.assertEqual(fewest(Table([(1, 3), (1, 4), (1, 1)]), Pledge(0, [(0, 0, 0)] * 2)), 6)

    def test_chances_not_in_lowest_terms(self):
        self.assertEqual(fewest(Table([(2, 4), (5000, 10000), (3, 3)]), Pledge(0, [(0, 0, 0)] * 2)), 4)
        self.assertEqual(fewest(Table([(0, 9), (3, 9), (3, 3)]), Pledge(0, [(0, 0, 0)] * 3)), 3)

    def test_nobody_dies_early(self):
        self.assertEqual(fewest(Table(NOBODY_EARLY), Pledge(0, [(0, 0, 0)] * 4)), 1)
        self.assertEqual(fewest(Table(ONE_AGE), Pledge(0, [(0, 0, 0)])), 1)

    def test_unders_of_ten_thousand(self):
        chances = [(1, 10000)] * 19 + [(1, 1)]
        self.assertEqual(fewest(Table(chances), Pledge(0, TWENTY_ROWS)), 10000 ** 19)
        self.assertEqual(fewest(Table(chances), Pledge(0, TWENTY_ROWS[:3])), 10000 ** 3)
        self.assertEqual(fewest(Table(TEN_THOUSANDS), Pledge(0, TWENTY_ROWS[:2])), 10 ** 8)

    def test_it_is_whole_at_every_year_and_no_lesser_one_is(self):
        for chances in TABLES:
            for age, rows in asked_pledges(chances):
                told = fewest(Table(chances), Pledge(age, rows))
                self.assertIs(type(told), int)
                alive = [chance_to_live(chances, age, year) for year in range(len(rows) + 1)]
                self.assertEqual({(told * chance).denominator for chance in alive}, {1})
                # A number is whole at every year just where each under goes into it.
                self.assertEqual(told, lcm(*[chance.denominator for chance in alive]))

    def test_no_lesser_number_one_by_one(self):
        for chances in (THREE_AGES, [(1, 6), (2, 10), (5, 8), (7, 7)], [(3, 9), (0, 2), (4, 6), (1, 12), (1, 1)]):
            for age in range(len(chances)):
                for years in range(1, len(chances) - age + 1):
                    alive = [chance_to_live(chances, age, year) for year in range(years + 1)]
                    least = 1
                    while any((least * chance).denominator != 1 for chance in alive):
                        least += 1
                    self.assertEqual(fewest(Table(chances), Pledge(age, [(1, 2, 3)] * years)), least)

    def test_refused(self):
        for chances in (ONE_AGE, SMALL, TWENTY):
            for age in range(20):
                left = max(len(chances) - age, 0)
                if left >= 1:
                    self.assertGreaterEqual(fewest(Table(chances), Pledge(age, TWENTY_ROWS[:left])), 1)
                if left < 20:
                    self.assert_refused(BadPledge, fewest, Table(chances), Pledge(age, TWENTY_ROWS[:left + 1]))


class BookTest(RefusalCase):
    def test_by_hand(self):
        table = Table(THREE_AGES)
        pledge = Pledge(0, THREE_ROWS)
        # 800, less 2000; then 240 more, less 1500; then 60 less, less 900.
        self.assertEqual(book(table, (1, 1), pledge, 8), [(8, 2, (-1200, 1)), (6, 3, (-2460, 1)), (3, 3, (-3420, 1))])
        # By a rate of a half all money is doubled ahead of what is paid for the dead.
        self.assertEqual(book(table, (1, 2), pledge, 8), [(8, 2, (-400, 1)), (6, 3, (-1820, 1)), (3, 3, (-4660, 1))])
        self.assertEqual(book(table, (2, 4), pledge, 16),
                         [(16, 4, (-800, 1)), (12, 6, (-3640, 1)), (6, 6, (-9320, 1))])

    def test_money_that_is_not_whole(self):
        self.assertEqual(book(Table(THREE_AGES), (9, 10), Pledge(0, THREE_ROWS[:1]), 4), [(4, 1, (-5000, 9))])

    def test_some_live_on(self):
        self.assertEqual(book(Table([(1, 2), (1, 1)]), (1, 1), Pledge(0, [(5, 2, 3)]), 6), [(6, 3, (9, 1))])

    def test_a_table_of_one_age(self):
        self.assertEqual(book(Table(ONE_AGE), (1, 2), Pledge(0, [(5, 2, 3)]), 1), [(1, 1, (3, 1))])
        self.assertEqual(book(Table(ONE_AGE), (1, 2), Pledge(0, [(5, 2, 3)]), 7), [(7, 7, (21, 1))])

    def test_each_year(self):
        for chances, rate, age, rows in cases():
            table = Table(chances)
            pledge = Pledge(age, rows)
            for turns in (1, 2, 3):
                many = turns * fewest(table, pledge)
                told = book(table, rate, pledge, many)
                self.assertIs(type(told), list)
                self.assertEqual(len(told), len(rows))
                money = Fraction(0)
                for year, row in enumerate(rows):
                    alive = many * chance_to_live(chances, age, year)
                    dead = alive * Fraction(*chances[age + year])
                    money = (money + alive * row[0] - alive * row[1]) / Fraction(*rate) - dead * row[2]
                    self.assertEqual(told[year], (alive, dead, as_part(money)))
                    self.assertIs(type(told[year]), tuple)
                    self.assertEqual([type(number) for number in told[year][:2]], [int, int])
                    self.assertTrue(is_part(told[year][2]))

    def test_the_last_money_is_so_many_times_income_less_outgo(self):
        for chances, rate, age, rows in cases():
            table = Table(chances)
            pledge = Pledge(age, rows)
            for turns in (1, 2, 3):
                many = turns * fewest(table, pledge)
                money = as_fraction(book(table, rate, pledge, many)[-1][2])
                more = as_fraction(income(table, rate, pledge)) - as_fraction(outgo(table, rate, pledge))
                self.assertEqual(money * as_fraction(later(rate, len(rows))), many * more)

    def test_the_list_is_the_askers_own(self):
        table = Table(THREE_AGES)
        pledge = Pledge(0, THREE_ROWS)
        first = book(table, (9, 10), pledge, 8)
        kept = list(first)
        first[0] = None
        first.append(None)
        self.assertEqual(book(table, (9, 10), pledge, 8), kept)
        first.clear()
        self.assertEqual(book(table, (9, 10), pledge, 8), kept)


class BookRefusalsTest(RefusalCase):
    def test_counts(self):
        for chances in (THREE_AGES, ONE_AGE, SMALL, TWENTY):
            table = Table(chances)
            pledge = Pledge(0, TWENTY_ROWS[:len(chances)])
            least = fewest(table, pledge)
            for many in (0, -1, -least, -2 * least, -LONG * least, -least - 1):
                self.assert_refused(BadCount, book, table, (9, 10), pledge, many)
            if least > 1:
                for many in (1, least - 1, least + 1, 2 * least - 1, 2 * least + 1, 5 * least + least // 2, -1 - least,
                             LONG * least + 1):
                    self.assert_refused(BadCount, book, table, (9, 10), pledge, many)

    def test_every_number_up_to_some_times_the_fewest(self):
        table = Table(THREE_AGES)
        for many in range(-40, 41):
            if many in (8, 16, 24, 32, 40):
                self.assertEqual(book(table, (1, 1), Pledge(0, THREE_ROWS), many)[0][0], many)
            else:
                self.assert_refused(BadCount, book, table, (1, 1), Pledge(0, THREE_ROWS), many)

    def test_whole_at_each_year_but_not_at_the_end(self):
        self.assert_refused(BadCount, book, Table([(1, 7), (1, 1)]), (1, 1), Pledge(0, [(1, 2, 3)]), 1)

    def test_pledges(self):
        for chances in (ONE_AGE, SMALL, TWENTY):
            for age in range(20):
                left = max(len(chances) - age, 0)
                if left < 20:
                    beyond = Pledge(age, TWENTY_ROWS[:left + 1])
                    for many in (-1, 0, 1, 10 ** 100):
                        self.assert_refused(BadPledge, book, Table(chances), (1, 1), beyond, many)

    def test_bad_rate_first(self):
        table = Table(SMALL)
        for rate in BAD_RATES:
            for pledge in (Pledge(3, TWENTY_ROWS[:2]), Pledge(3, TWENTY_ROWS[:3])):
                for many in (-1, 0, 1, 1000):
                    self.assert_refused(BadRate, book, table, rate, pledge, many)


if __name__ == "__main__":
    unittest.main()
