"""What holds over the whole program: what is handed in stays, what is told is the asker's own, the names stand."""

import importlib
import inspect
import unittest

from tests.refusals import RefusalCase
from tests.samples import SMALL, TABLES, TWENTY, TWENTY_ROWS, asked_pledges, is_part
from yearpledge.books import book, fewest
from yearpledge.couples import both_live, either_lives, paid, paid_both, paid_either
from yearpledge.errors import BadCount, BadPledge, BadRate, NoYear
from yearpledge.pledges import Pledge
from yearpledge.tables import Table, later
from yearpledge.worths import ends, fair_due, held, income, need, outgo

INTERFACE = {
    "parts": {"part": "top under", "plus": "one other", "less": "one other", "times": "one other",
              "over": "one other", "summed": "row"},
    "tables": {"Table": "chances", "Table.ages": "self", "Table.dies": "self age", "Table.lives": "self age years",
               "later": "rate years"},
    "pledges": {"Pledge": "age rows", "Pledge.years": "self"},
    "worths": {"outgo": "table rate pledge", "income": "table rate pledge", "fair_due": "table rate pledge",
               "need": "table rate pledge year", "held": "table rate pledge year", "ends": "table rate pledge"},
    "books": {"fewest": "table pledge", "book": "table rate pledge many"},
    "couples": {"both_live": "table one other years", "either_lives": "table one other years",
                "paid": "table rate age years", "paid_both": "table rate one other years",
                "paid_either": "table rate one other years"},
}


def ask_all(table, rate, pledge):
    """Every function that takes a table, a rate or a pledge, asked once."""
    age = pledge.age
    return {
        "ages": table.ages(), "dies": table.dies(age), "lives": table.lives(age, 1), "later": later(rate, 3),
        "years": pledge.years(), "outgo": outgo(table, rate, pledge), "income": income(table, rate, pledge),
        "fair_due": fair_due(table, rate, pledge), "need": need(table, rate, pledge, 0),
        "need later": need(table, rate, pledge, pledge.years() - 1), "held": held(table, rate, pledge, 0),
        "held later": held(table, rate, pledge, pledge.years() - 1), "ends": ends(table, rate, pledge),
        "fewest": fewest(table, pledge), "book": book(table, rate, pledge, 2 * fewest(table, pledge)),
        "both_live": both_live(table, age, 0, 2), "either_lives": either_lives(table, 0, age, 2),
        "paid": paid(table, rate, age, 3), "paid_both": paid_both(table, rate, age, 0, 3),
        "paid_either": paid_either(table, rate, 0, age, 3)}


def refuse_all(case, table, pledge):
    """Every function that takes a table and something that it refuses, asked once."""
    for asked in (outgo, income, fair_due, ends):
        case.assert_refused(BadRate, asked, table, (2, 1), pledge)
        case.assert_refused(BadPledge, asked, table, (1, 2), Pledge(19, [(1, 2, 3)] * 2))
    for asked in (need, held):
        case.assert_refused(NoYear, asked, table, (1, 2), pledge, -1)
        case.assert_refused(NoYear, asked, table, (1, 2), pledge, 21)
    case.assert_refused(BadPledge, fewest, table, Pledge(19, [(1, 2, 3)] * 2))
    case.assert_refused(BadCount, book, table, (1, 2), pledge, 0)
    case.assert_refused(NoYear, both_live, table, 0, 20, 1)
    case.assert_refused(NoYear, paid_either, table, (1, 2), -1, 0, 1)


class HandedInTest(RefusalCase):
    def test_everything_handed_in_stays_behind_every_function(self):
        for chances in TABLES:
            for age, rows in asked_pledges(chances):
                handed_chances = list(chances)
                handed_rows = [list(row) for row in rows]
                table = Table(handed_chances)
                pledge = Pledge(age, handed_rows)
                rate = (18, 20)
                first = ask_all(table, rate, pledge)
                refuse_all(self, table, pledge)
                self.assertEqual(handed_chances, chances)
                self.assertEqual(handed_rows, [list(row) for row in rows])
                self.assertEqual(rate, (18, 20))
                self.assertEqual((pledge.age, pledge.rows), (age, rows))
                self.assertEqual([type(row) for row in pledge.rows], [tuple] * len(rows))
                self.assertEqual(ask_all(table, rate, pledge), first)
                self.assertEqual(ask_all(Table(chances), (9, 10), Pledge(age, rows)), first)

    def test_what_was_handed_in_may_be_changed_later(self):
        handed_chances = list(SMALL)
        handed_rows = [list(row) for row in TWENTY_ROWS[:3]]
        table = Table(handed_chances)
        pledge = Pledge(1, handed_rows)
        first = ask_all(table, (9, 10), pledge)
        handed_chances[1] = (1, 9)
        handed_rows[0][0] = 5
        handed_rows[1].clear()
        self.assertEqual(ask_all(table, (9, 10), pledge), first)
        handed_chances.clear()
        handed_rows.clear()
        self.assertEqual(ask_all(table, (9, 10), pledge), first)

    def test_one_pledge_with_several_tables(self):
        pledge = Pledge(0, TWENTY_ROWS[:3])
        small = ask_all(Table(SMALL), (9, 10), pledge)
        twenty = ask_all(Table(TWENTY), (9, 10), pledge)
        self.assertNotEqual(small, twenty)
        self.assertEqual(ask_all(Table(SMALL), (9, 10), pledge), small)
        self.assertEqual(ask_all(Table(TWENTY), (9, 10), pledge), twenty)


class ToldTest(RefusalCase):
    def test_lists_told_are_the_askers_own(self):
        table = Table(SMALL)
        pledge = Pledge(1, TWENTY_ROWS[:3])
        first = ask_all(table, (9, 10), pledge)
        kept = {name: list(told) if isinstance(told, list) else told for name, told in first.items()}
        for told in first.values():
            if isinstance(told, list):
                told.reverse()
                told.pop()
                told.append("changed")
        self.assertEqual(ask_all(table, (9, 10), pledge), kept)
        self.assertEqual(pledge.rows, TWENTY_ROWS[:3])

    def test_no_two_lists_told_are_one(self):
        table = Table(SMALL)
        pledge = Pledge(1, TWENTY_ROWS[:3])
        for name in ("ends", "book"):
            first = ask_all(table, (9, 10), pledge)
            second = ask_all(table, (9, 10), pledge)
            self.assertIsNot(first[name], second[name])
            self.assertIsNot(first[name], pledge.rows)
            self.assertFalse(any(isinstance(row, list) for row in first[name]))

    def test_all_parts_are_in_lowest_terms(self):
        whole = ("ages", "years", "fewest")
        for chances in TABLES:
            for age, rows in asked_pledges(chances):
                for rate in ((10, 10), (18, 20), (1, 10000)):
                    told = ask_all(Table(chances), rate, Pledge(age, rows))
                    for name in whole:
                        self.assertIs(type(told[name]), int)
                    parts = [told[name] for name in told if name not in whole + ("ends", "book")]
                    parts += [one for end in told["ends"] for one in end]
                    parts += [row[2] for row in told["book"]]
                    self.assertTrue(all(is_part(one) for one in parts))

    def test_nought_is_nought_over_one(self):
        told = ask_all(Table([(0, 9), (2, 2)]), (6, 8), Pledge(0, [(0, 0, 0)] * 2))
        for name in ("outgo", "income", "fair_due", "need", "need later", "held", "held later"):
            self.assertEqual(told[name], (0, 1))
        self.assertEqual(told["ends"], [((0, 1), (0, 1)), ((1, 1), (0, 1)), ((0, 1), (0, 1))])
        self.assertEqual(told["book"], [(2, 0, (0, 1)), (2, 2, (0, 1))])


class InterfaceTest(unittest.TestCase):
    def test_names_and_arguments(self):
        for module, names in INTERFACE.items():
            drawn = importlib.import_module("yearpledge." + module)
            for name, arguments in names.items():
                found = drawn
                for step in name.split("."):
                    found = getattr(found, step)
                self.assertEqual(list(inspect.signature(found).parameters), arguments.split(), name)


if __name__ == "__main__":
    unittest.main()
