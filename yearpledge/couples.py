"""Two lives of one table that don't hang on one another."""

from yearpledge.parts import less, plus, times
from yearpledge.tables import check_rate, check_years, worth_now


def both_live(table, one, other, years):
    return times(table.lives(one, years), table.lives(other, years))


def either_lives(table, one, other, years):
    apart = plus(table.lives(one, years), table.lives(other, years))
    return less(apart, both_live(table, one, other, years))


def check_rate_ages_years(table, rate, ages, years):
    check_rate(rate)
    for age in ages:
        table.check_age(age)
    check_years(years)


def years_to_walk(table, years):
    # Nobody lives as many years more as the table has ages, so no year beyond them pays, however many are asked for.
    return min(years, table.ages())


def paid(table, rate, age, years):
    check_rate_ages_years(table, rate, [age], years)
    return worth_now(rate, [table.lives(age, year) for year in range(years_to_walk(table, years))])


def paid_both(table, rate, one, other, years):
    check_rate_ages_years(table, rate, [one, other], years)
    return worth_now(rate, [both_live(table, one, other, year) for year in range(years_to_walk(table, years))])


def paid_either(table, rate, one, other, years):
    check_rate_ages_years(table, rate, [one, other], years)
    return worth_now(rate, [either_lives(table, one, other, year) for year in range(years_to_walk(table, years))])
