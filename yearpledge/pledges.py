"""Pledges: for each year what is due, what the living one gets, and what is paid for the dead one."""

from yearpledge.errors import BadPledge

MOST_AGE = 19
MOST_YEARS = 20
MOST_COINS = 1000000

# The places of the three numbers in a row.
DUE = 0
LIVING = 1
DYING = 2
PLACES = 3


def check_row(row):
    if len(row) != PLACES:
        raise BadPledge("a row has three numbers of coins")
    for coins in row:
        if not 0 <= coins <= MOST_COINS:
            raise BadPledge("coins are 0 to 1000000")


def check_rows(rows):
    if not 1 <= len(rows) <= MOST_YEARS:
        raise BadPledge("a pledge has 1 to 20 rows")
    for row in rows:
        check_row(row)


class Pledge:
    def __init__(self, age, rows):
        if not 0 <= age <= MOST_AGE:
            raise BadPledge("a pledge begins at an age of 0 to 19")
        check_rows(rows)
        self.age = age
        # A row may be a list that is changed later, so each row is made anew as well.
        self.rows = [tuple(row) for row in rows]

    def years(self):
        return len(self.rows)


def check_goes_with(table, pledge):
    if pledge.age + pledge.years() > table.ages():
        raise BadPledge("the pledge goes beyond the table's end")
