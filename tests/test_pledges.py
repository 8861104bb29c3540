import unittest

from tests.refusals import RefusalCase
from tests.samples import LONG, TWENTY_ROWS
from yearpledge.errors import BadPledge
from yearpledge.pledges import Pledge

THREE = [(1, 2, 3), (4, 5, 6), (7, 8, 9)]


class PledgeTest(RefusalCase):
    def test_age_rows_and_years(self):
        pledge = Pledge(4, THREE)
        self.assertEqual(pledge.age, 4)
        self.assertEqual(pledge.rows, THREE)
        self.assertEqual(pledge.years(), 3)

    def test_one_row_and_twenty(self):
        one = Pledge(0, [(1, 2, 3)])
        self.assertEqual((one.rows, one.years()), ([(1, 2, 3)], 1))
        twenty = Pledge(0, TWENTY_ROWS)
        self.assertEqual((twenty.rows, twenty.years()), (TWENTY_ROWS, 20))

    def test_each_age(self):
        for age in range(20):
            self.assertEqual(Pledge(age, THREE).age, age)

    def test_age_and_years_are_not_weighed_without_a_table(self):
        self.assertEqual(Pledge(19, TWENTY_ROWS).years(), 20)

    def test_coins_of_nought_and_of_a_million(self):
        rows = [(0, 0, 0), (1000000, 1000000, 1000000), (0, 1000000, 0), (1000000, 0, 1000000)]
        self.assertEqual(Pledge(0, rows).rows, rows)

    def test_rows_is_a_list_of_tuples_whatever_the_rows_were(self):
        for handed in (THREE, [list(row) for row in THREE], [[1, 2, 3], (4, 5, 6), [7, 8, 9]]):
            pledge = Pledge(1, handed)
            self.assertIs(type(pledge.rows), list)
            self.assertEqual([type(row) for row in pledge.rows], [tuple] * 3)
            self.assertEqual(pledge.rows, THREE)

    def test_a_list_changed_later_changes_nothing(self):
        handed = list(THREE)
        pledge = Pledge(1, handed)
        handed[0] = (0, 0, 0)
        handed.append((9, 9, 9))
        self.assertEqual((pledge.rows, pledge.years()), (THREE, 3))
        handed.clear()
        self.assertEqual((pledge.rows, pledge.years()), (THREE, 3))

    def test_a_row_changed_later_changes_nothing(self):
        handed = [list(row) for row in THREE]
        pledge = Pledge(1, handed)
        handed[0][0] = 77
        handed[1].append(5)
        handed[2].clear()
        self.assertEqual((pledge.rows, pledge.years()), (THREE, 3))

    def test_what_was_handed_in_stays(self):
        handed = [[1, 2, 3], (4, 5, 6), [7, 8, 9]]
        Pledge(1, handed).years()
        self.assertEqual(handed, [[1, 2, 3], (4, 5, 6), [7, 8, 9]])

    def test_one_row_handed_in_thrice(self):
        row = [1, 2, 3]
        pledge = Pledge(0, [row, row, row])
        row[1] = 50
        self.assertEqual(pledge.rows, [(1, 2, 3)] * 3)

    def test_pledges_do_not_hang_on_one_another(self):
        first = Pledge(1, THREE)
        second = Pledge(2, THREE[:1])
        self.assertIsNot(Pledge(1, THREE).rows, first.rows)
        self.assertEqual((first.age, first.years(), second.age, second.years()), (1, 3, 2, 1))


class BadPledgeTest(RefusalCase):
    def test_ages(self):
        for age in (-1, -2, -20, 20, 21, 100, LONG, -LONG):
            self.assert_refused(BadPledge, Pledge, age, THREE)

    def test_no_row(self):
        self.assert_refused(BadPledge, Pledge, 0, [])

    def test_more_than_twenty_rows(self):
        for many in (21, 22, 40):
            self.assert_refused(BadPledge, Pledge, 0, [(1, 2, 3)] * many)

    def test_coins_in_each_place_of_each_row(self):
        for years in (1, 3, 20):
            for year in sorted({0, years // 2, years - 1}):
                for place in range(3):
                    for coins in (-1, -1000000, 1000001, 2000000, LONG, -LONG):
                        rows = [[1, 2, 3] for turn in range(years)]
                        rows[year][place] = coins
                        self.assert_refused(BadPledge, Pledge, 0, rows)
                        self.assert_refused(BadPledge, Pledge, 0, [tuple(row) for row in rows])

    def test_rows_of_other_lengths(self):
        for row in ((), (1,), (1, 2), (1, 2, 3, 4)):
            self.assert_refused(BadPledge, Pledge, 0, [row])
            self.assert_refused(BadPledge, Pledge, 0, THREE + [list(row)])

    def test_what_is_refused_stays(self):
        handed = [[1, 2, 3], [4, -5, 6]]
        self.assert_refused(BadPledge, Pledge, 0, handed)
        self.assertEqual(handed, [[1, 2, 3], [4, -5, 6]])


if __name__ == "__main__":
    unittest.main()
