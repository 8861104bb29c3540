"""What a pledge is worth: what is paid out and due, what must be held and is there, its ends, its fair due."""

from yearpledge.couples import paid
from yearpledge.errors import NoYear
from yearpledge.parts import NOUGHT, ONE, less, over, part, plus, times
from yearpledge.pledges import DUE, DYING, LIVING, check_goes_with
from yearpledge.tables import check_rate, later, worth_now


def check_rate_and_pledge(table, rate, pledge):
    check_rate(rate)
    check_goes_with(table, pledge)


def check_year(table, pledge, year):
    if not 0 <= year <= pledge.years():
        raise NoYear("the pledge has no such year")
    if table.lives(pledge.age, year) == NOUGHT:
        raise NoYear("nobody lives at that year")


def dies_in(table, age, year):
    return times(table.lives(age, year), table.dies(age + year))


# The two below take an age and rows in the place of a pledge, so that they tell of a pledge's later years too, and of
# its end, where no row is left.
def worth_paid_out(table, rate, age, rows):
    to_living = [times(part(row[LIVING], 1), table.lives(age, year)) for year, row in enumerate(rows)]
    for_dead = [times(part(row[DYING], 1), dies_in(table, age, year)) for year, row in enumerate(rows)]
    # What is paid for the dead is paid at the year's end, a year later than the rest.
    return plus(worth_now(rate, to_living), times(later(rate, 1), worth_now(rate, for_dead)))


def worth_due(table, rate, age, rows):
    return worth_now(rate, [times(part(row[DUE], 1), table.lives(age, year)) for year, row in enumerate(rows)])


def outgo(table, rate, pledge):
    check_rate_and_pledge(table, rate, pledge)
    return worth_paid_out(table, rate, pledge.age, pledge.rows)


def income(table, rate, pledge):
    check_rate_and_pledge(table, rate, pledge)
    return worth_due(table, rate, pledge.age, pledge.rows)


def fair_due(table, rate, pledge):
    return over(outgo(table, rate, pledge), paid(table, rate, pledge.age, pledge.years()))


def need(table, rate, pledge, year):
    check_rate_and_pledge(table, rate, pledge)
    check_year(table, pledge, year)
    age = pledge.age + year
    rows = pledge.rows[year:]
    return less(worth_paid_out(table, rate, age, rows), worth_due(table, rate, age, rows))


def money_at_year_end(rate, money, row, alive, dead):
    begun = plus(money, times(part(row[DUE] - row[LIVING], 1), alive))
    return less(over(begun, later(rate, 1)), times(part(row[DYING], 1), dead))


def held(table, rate, pledge, year):
    check_rate_and_pledge(table, rate, pledge)
    check_year(table, pledge, year)
    there = NOUGHT
    for past, row in enumerate(pledge.rows[:year]):
        age = pledge.age + past
        there = money_at_year_end(rate, there, row, ONE, table.dies(age))
        there = over(there, table.lives(age, 1))
    return there


def ends(table, rate, pledge):
    check_rate_and_pledge(table, rate, pledge)
    told = []
    loss = NOUGHT
    for year, row in enumerate(pledge.rows):
        loss = plus(loss, times(part(row[LIVING] - row[DUE], 1), later(rate, year)))
        for_dead = times(part(row[DYING], 1), later(rate, year + 1))
        told.append((dies_in(table, pledge.age, year), plus(loss, for_dead)))
    told.append((table.lives(pledge.age, pledge.years()), loss))
    return told
