import unittest
from fractions import Fraction

from tests.refusals import RefusalCase
from tests.samples import (
    BAD_RATES, LONG, NOBODY_EARLY, ONE_AGE, RATES, SMALL, TEN_THOUSANDS, THREE_AGES, THREE_ROWS, TWENTY, TWENTY_ROWS,
    as_fraction, as_part, cases, chance_to_live, is_part, ways, weighed_due, weighed_paid)
from yearpledge.errors import BadPledge, BadRate, NoYear
from yearpledge.pledges import Pledge
from yearpledge.tables import Table, later
from yearpledge.worths import ends, fair_due, held, income, need, outgo

NINE_TENTHS = (9, 10)


class WorthsCase(RefusalCase):
    def assert_told(self, told, asked):
        self.assertTrue(is_part(told))
        self.assertEqual(told, as_part(asked))


class OutgoAndIncomeTest(WorthsCase):
    def test_by_hand(self):
        table = Table(THREE_AGES)
        pledge = Pledge(0, THREE_ROWS)
        # 225 for the dead of the first year; 6.75 and 151.875 in the second; 6.075 and 82.0125 in the third.
        self.assert_told(outgo(table, NINE_TENTHS, pledge), Fraction("471.7125"))
        # 100 in the first year, 33.75 in the second.
        self.assertEqual(income(table, NINE_TENTHS, pledge), (535, 4))

    def test_a_later_age_by_hand(self):
        table = Table(THREE_AGES)
        pledge = Pledge(1, [(8, 3, 40), (6, 1, 200)])
        # 3 + 40/2 * 9/10 and then (1/2 + 200/2 * 9/10) * 9/10; 8 and 6/2 * 9/10.
        self.assertEqual(outgo(table, NINE_TENTHS, pledge), (2049, 20))
        self.assertEqual(income(table, NINE_TENTHS, pledge), (107, 10))

    def test_a_table_of_one_age(self):
        table = Table(ONE_AGE)
        pledge = Pledge(0, [(8, 3, 40)])
        self.assertEqual(outgo(table, NINE_TENTHS, pledge), (39, 1))
        self.assertEqual(income(table, NINE_TENTHS, pledge), (8, 1))

    def test_nobody_dies_ahead_of_the_last_age(self):
        table = Table(NOBODY_EARLY)
        pledge = Pledge(0, [(10, 1, 1000), (20, 2, 1000), (30, 3, 1000), (40, 4, 100)])
        self.assertEqual(income(table, (1, 2), pledge), (65, 2))
        self.assertEqual(outgo(table, (1, 2), pledge), (19, 2))
        self.assertEqual(outgo(table, (1, 2), Pledge(0, [(10, 1, 1000), (20, 2, 1000)])), (2, 1))

    def test_a_rate_of_one(self):
        table = Table(THREE_AGES)
        pledge = Pledge(0, THREE_ROWS)
        for rate in ((1, 1), (5, 5), (10000, 10000)):
            # 250; 7.5 and 187.5; 7.5 and 112.5. And 100 and 37.5.
            self.assertEqual(outgo(table, rate, pledge), (565, 1))
            self.assertEqual(income(table, rate, pledge), (275, 2))

    def test_a_rate_not_in_lowest_terms(self):
        table = Table(THREE_AGES)
        pledge = Pledge(0, THREE_ROWS)
        for rate in ((18, 20), (9000, 10000)):
            self.assertEqual(outgo(table, rate, pledge), outgo(table, NINE_TENTHS, pledge))
            self.assertEqual(income(table, rate, pledge), income(table, NINE_TENTHS, pledge))

    def test_unders_of_ten_thousand(self):
        table = Table(TEN_THOUSANDS)
        pledge = Pledge(0, [(1, 0, 1), (1, 1, 0)])
        self.assertEqual(income(table, (1, 10000), pledge), (10 ** 8 + 9999, 10 ** 8))
        self.assertEqual(outgo(table, (1, 10000), pledge), (1, 10000))

    def test_coins_of_nought_and_of_a_million(self):
        table = Table(THREE_AGES)
        nothing = Pledge(0, [(0, 0, 0)] * 3)
        self.assertEqual((outgo(table, NINE_TENTHS, nothing), income(table, NINE_TENTHS, nothing)), ((0, 1), (0, 1)))
        most = Pledge(0, [(1000000, 1000000, 1000000)])
        self.assertEqual(outgo(table, NINE_TENTHS, most), (1225000, 1))
        self.assertEqual(income(table, NINE_TENTHS, most), (1000000, 1))

    def test_each_of_the_three_numbers_by_itself(self):
        table = Table(THREE_AGES)
        for year, alive, dead in ((0, (1, 1), (1, 4)), (1, (3, 4), (3, 8)), (2, (3, 8), (3, 8))):
            rows = [(0, 0, 0)] * 3
            rows[year] = (1, 0, 0)
            self.assertEqual(income(table, (1, 1), Pledge(0, rows)), alive)
            self.assertEqual(outgo(table, (1, 1), Pledge(0, rows)), (0, 1))
            rows[year] = (0, 1, 0)
            self.assertEqual(income(table, (1, 1), Pledge(0, rows)), (0, 1))
            self.assertEqual(outgo(table, (1, 1), Pledge(0, rows)), alive)
            rows[year] = (0, 0, 1)
            self.assertEqual(income(table, (1, 1), Pledge(0, rows)), (0, 1))
            self.assertEqual(outgo(table, (1, 1), Pledge(0, rows)), dead)

    def test_twenty_years(self):
        table = Table(TWENTY)
        pledge = Pledge(0, TWENTY_ROWS)
        for rate in RATES:
            self.assert_told(outgo(table, rate, pledge), weighed_paid(TWENTY, rate, 0, TWENTY_ROWS))
            self.assert_told(income(table, rate, pledge), weighed_due(TWENTY, rate, 0, TWENTY_ROWS))

    def test_every_case(self):
        for chances, rate, age, rows in cases():
            with self.subTest(chances=chances, rate=rate, age=age, years=len(rows)):
                table = Table(chances)
                pledge = Pledge(age, rows)
                self.assert_told(outgo(table, rate, pledge), weighed_paid(chances, rate, age, rows))
                self.assert_told(income(table, rate, pledge), weighed_due(chances, rate, age, rows))


class NeedTest(WorthsCase):
    def test_by_hand(self):
        table = Table(THREE_AGES)
        pledge = Pledge(0, THREE_ROWS)
        # At the last year 20 and 300 * 9/10; a year earlier 10 less 50, 500/2 * 9/10, and half of the former * 9/10.
        self.assertEqual(need(table, NINE_TENTHS, pledge, 2), (290, 1))
        self.assertEqual(need(table, NINE_TENTHS, pledge, 1), (631, 2))
        self.assert_told(need(table, NINE_TENTHS, pledge, 0), Fraction("471.7125") - Fraction("133.75"))

    def test_at_the_beginning_it_is_outgo_less_income(self):
        for chances, rate, age, rows in cases():
            table = Table(chances)
            pledge = Pledge(age, rows)
            asked = as_fraction(outgo(table, rate, pledge)) - as_fraction(income(table, rate, pledge))
            self.assert_told(need(table, rate, pledge, 0), asked)

    def test_at_every_year_it_is_the_worth_of_the_rows_that_are_left(self):
        for chances, rate, age, rows in cases():
            table = Table(chances)
            pledge = Pledge(age, rows)
            for year in range(len(rows)):
                with self.subTest(chances=chances, rate=rate, age=age, years=len(rows), year=year):
                    left = (chances, rate, age + year, rows[year:])
                    self.assert_told(need(table, rate, pledge, year), weighed_paid(*left) - weighed_due(*left))

    def test_at_the_end_it_is_nought_where_somebody_lives(self):
        for chances, rate, age, rows in cases():
            if age + len(rows) < len(chances):
                self.assertEqual(need(Table(chances), rate, Pledge(age, rows), len(rows)), (0, 1))


class HeldTest(WorthsCase):
    def test_by_hand(self):
        table = Table(THREE_AGES)
        pledge = Pledge(0, THREE_ROWS)
        # 100 by 9/10 less 1000/4, parted among 3/4; then that and 40, by 9/10, less 500/2, parted among 1/2.
        first = (Fraction(1000, 9) - 250) / Fraction(3, 4)
        second = ((first + 40) / Fraction(9, 10) - 250) / Fraction(1, 2)
        self.assertEqual(held(table, NINE_TENTHS, pledge, 0), (0, 1))
        self.assert_told(held(table, NINE_TENTHS, pledge, 1), first)
        self.assertEqual(held(table, NINE_TENTHS, pledge, 1), (-5000, 27))
        self.assert_told(held(table, NINE_TENTHS, pledge, 2), second)

    def test_the_living_one_gets_it_ahead_of_the_rate(self):
        table = Table(NOBODY_EARLY)
        pledge = Pledge(0, [(100, 40, 9), (0, 20, 9), (0, 0, 0)])
        self.assertEqual(held(table, (1, 2), pledge, 1), (120, 1))
        self.assertEqual(held(table, (1, 2), pledge, 2), (200, 1))
        self.assertEqual(held(table, (1, 2), pledge, 3), (400, 1))

    def test_nought_at_the_beginning(self):
        for chances, rate, age, rows in cases():
            self.assertEqual(held(Table(chances), rate, Pledge(age, rows), 0), (0, 1))

    def test_each_next_year(self):
        for chances, rate, age, rows in cases():
            table = Table(chances)
            pledge = Pledge(age, rows)
            for year, row in enumerate(rows):
                dying = Fraction(*chances[age + year])
                if dying != 1:
                    with self.subTest(chances=chances, rate=rate, age=age, years=len(rows), year=year):
                        there = as_fraction(held(table, rate, pledge, year))
                        grown = (there + row[0] - row[1]) / Fraction(*rate)
                        asked = (grown - row[2] * dying) / (1 - dying)
                        self.assert_told(held(table, rate, pledge, year + 1), asked)


class NeedAndHeldTest(WorthsCase):
    def test_together_they_come_to_income_less_outgo(self):
        for chances, rate, age, rows in cases():
            table = Table(chances)
            pledge = Pledge(age, rows)
            asked = as_fraction(income(table, rate, pledge)) - as_fraction(outgo(table, rate, pledge))
            for year in range(len(rows) + 1):
                alive = table.lives(age, year)
                if alive != (0, 1):
                    more = as_fraction(held(table, rate, pledge, year)) - as_fraction(need(table, rate, pledge, year))
                    self.assertEqual(more * as_fraction(alive) * as_fraction(later(rate, year)), asked)

    def test_years_that_the_pledge_has_not(self):
        for chances, age, rows in ((SMALL, 0, TWENTY_ROWS[:3]), (SMALL, 2, TWENTY_ROWS[:1]), (ONE_AGE, 0, [(1, 2, 3)]),
                                   (TWENTY, 5, TWENTY_ROWS[:15])):
            table = Table(chances)
            pledge = Pledge(age, rows)
            years = len(rows)
            for asked in (need, held):
                for year in (-1, -2, -years, -years - 1, years + 1, years + 2, years + 50, LONG, -LONG):
                    self.assert_refused(NoYear, asked, table, NINE_TENTHS, pledge, year)

    def test_an_end_at_which_nobody_lives(self):
        for chances in (ONE_AGE, NOBODY_EARLY, SMALL, TEN_THOUSANDS, TWENTY):
            for age in range(len(chances)):
                years = len(chances) - age
                pledge = Pledge(age, TWENTY_ROWS[:years])
                for asked in (need, held):
                    self.assertTrue(is_part(asked(Table(chances), NINE_TENTHS, pledge, years - 1)))
                    self.assert_refused(NoYear, asked, Table(chances), NINE_TENTHS, pledge, years)
                    self.assert_refused(NoYear, asked, Table(chances), NINE_TENTHS, pledge, years + 1)

    def test_the_order_of_refusals(self):
        table = Table(SMALL)
        beyond = Pledge(3, TWENTY_ROWS[:3])
        just = Pledge(3, TWENTY_ROWS[:2])
        for asked in (need, held):
            for year in (-1, 0, 1, 2, 3, 4):
                self.assert_refused(BadRate, asked, table, (0, 1), beyond, year)
                self.assert_refused(BadRate, asked, table, (0, 1), just, year)
                self.assert_refused(BadPledge, asked, table, (1, 1), beyond, year)
            for year in (-1, 2, 3):
                self.assert_refused(NoYear, asked, table, (1, 1), just, year)


class EndsTest(WorthsCase):
    def test_by_hand(self):
        told = ends(Table(THREE_AGES), NINE_TENTHS, Pledge(0, THREE_ROWS))
        # Those who live lose 100, then 36 more (40 * 9/10), and get 16.2 (20 * 81/100); the dead 900, 405, 218.7.
        self.assertEqual(told, [((1, 4), (800, 1)), ((3, 8), (269, 1)), ((3, 8), (989, 10)), ((0, 1), (-599, 5))])

    def test_some_live_through_all(self):
        told = ends(Table(THREE_AGES), (1, 2), Pledge(0, [(7, 3, 10)]))
        self.assertEqual(told, [((1, 4), (1, 1)), ((3, 4), (-4, 1))])

    def test_kinds(self):
        for chances, rate, age, rows in cases():
            told = ends(Table(chances), rate, Pledge(age, rows))
            self.assertIs(type(told), list)
            self.assertEqual(len(told), len(rows) + 1)
            for end in told:
                self.assertIs(type(end), tuple)
                self.assertEqual(len(end), 2)
                self.assertTrue(is_part(end[0]) and is_part(end[1]))

    def test_every_way(self):
        for chances, rate, age, rows in cases():
            with self.subTest(chances=chances, rate=rate, age=age, years=len(rows)):
                asked = [(as_part(chance), as_part(paid - due))
                         for chance, paid, due in ways(chances, rate, age, rows)]
                self.assertEqual(ends(Table(chances), rate, Pledge(age, rows)), asked)

    def test_sums(self):
        for chances, rate, age, rows in cases():
            table = Table(chances)
            pledge = Pledge(age, rows)
            told = ends(table, rate, pledge)
            self.assertEqual(sum(as_fraction(chance) for chance, loss in told), 1)
            weighed = sum(as_fraction(chance) * as_fraction(loss) for chance, loss in told)
            asked = as_fraction(outgo(table, rate, pledge)) - as_fraction(income(table, rate, pledge))
            self.assertEqual(weighed, asked)

    def test_nobody_lives_through_all(self):
        for chances, rate, age, rows in cases():
            last = ends(Table(chances), rate, Pledge(age, rows))[-1]
            self.assertEqual(last[0] == (0, 1), age + len(rows) == len(chances))

    def test_the_list_is_the_askers_own(self):
        table = Table(THREE_AGES)
        pledge = Pledge(0, THREE_ROWS)
        first = ends(table, NINE_TENTHS, pledge)
        kept = list(first)
        first[0] = None
        first.append(None)
        self.assertEqual(ends(table, NINE_TENTHS, pledge), kept)
        first.clear()
        self.assertEqual(ends(table, NINE_TENTHS, pledge), kept)


class FairDueTest(WorthsCase):
    def test_by_hand(self):
        table = Table(THREE_AGES)
        self.assertEqual(fair_due(table, (1, 1), Pledge(0, THREE_ROWS)), (4520, 17))
        self.assertEqual(fair_due(table, NINE_TENTHS, Pledge(1, [(8, 3, 40), (6, 1, 200)])), (2049, 29))
        self.assertEqual(fair_due(Table(ONE_AGE), NINE_TENTHS, Pledge(0, [(8, 3, 40)])), (39, 1))

    def test_what_is_due_by_the_rows_does_not_count(self):
        table = Table(THREE_AGES)
        other = [(1000000, row[1], row[2]) for row in THREE_ROWS]
        self.assertEqual(fair_due(table, NINE_TENTHS, Pledge(0, other)),
                         fair_due(table, NINE_TENTHS, Pledge(0, THREE_ROWS)))

    def test_nothing_paid_out(self):
        self.assertEqual(fair_due(Table(THREE_AGES), NINE_TENTHS, Pledge(0, [(5, 0, 0)] * 3)), (0, 1))

    def test_due_at_each_year_it_comes_to_outgo(self):
        for chances, rate, age, rows in cases():
            with self.subTest(chances=chances, rate=rate, age=age, years=len(rows)):
                a_coin = sum(chance_to_live(chances, age, year) * Fraction(*rate) ** year for year in range(len(rows)))
                self.assert_told(fair_due(Table(chances), rate, Pledge(age, rows)),
                                 weighed_paid(chances, rate, age, rows) / a_coin)

    def test_a_whole_fair_due_in_the_rows_makes_both_worths_one(self):
        table = Table(ONE_AGE)
        pledge = Pledge(0, [(39, 3, 40)])
        self.assertEqual(income(table, NINE_TENTHS, pledge), outgo(table, NINE_TENTHS, pledge))
        self.assertEqual(need(table, NINE_TENTHS, pledge, 0), (0, 1))


class RefusalsTest(WorthsCase):
    ASKED = (outgo, income, fair_due, ends)

    def test_a_pledge_just_to_the_tables_end_and_one_beyond(self):
        for chances in (ONE_AGE, NOBODY_EARLY, SMALL, TWENTY):
            table = Table(chances)
            for age in range(20):
                left = max(len(chances) - age, 0)
                for asked in self.ASKED:
                    if left >= 1:
                        asked(table, NINE_TENTHS, Pledge(age, TWENTY_ROWS[:left]))
                    if left < 20:
                        self.assert_refused(BadPledge, asked, table, NINE_TENTHS, Pledge(age, TWENTY_ROWS[:left + 1]))

    def test_a_pledge_far_beyond(self):
        for asked in self.ASKED:
            self.assert_refused(BadPledge, asked, Table(ONE_AGE), NINE_TENTHS, Pledge(19, TWENTY_ROWS))
            self.assert_refused(BadPledge, asked, Table(TWENTY), NINE_TENTHS, Pledge(1, TWENTY_ROWS))

    def test_bad_rates(self):
        table = Table(SMALL)
        for rate in BAD_RATES:
            for pledge in (Pledge(0, TWENTY_ROWS[:2]), Pledge(3, TWENTY_ROWS[:2]), Pledge(3, TWENTY_ROWS[:3])):
                for asked in self.ASKED:
                    self.assert_refused(BadRate, asked, table, rate, pledge)
                self.assert_refused(BadRate, need, table, rate, pledge, 0)
                self.assert_refused(BadRate, held, table, rate, pledge, 0)


if __name__ == "__main__":
    unittest.main()
