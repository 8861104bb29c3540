"""The book of a house of many like lives that die by the table to the last one."""

from yearpledge.errors import BadCount
from yearpledge.parts import NOUGHT, greatest_shared, part
from yearpledge.pledges import check_goes_with
from yearpledge.worths import check_rate_and_pledge, money_at_year_end


def fewest(table, pledge):
    check_goes_with(table, pledge)
    least = 1
    for year in range(pledge.years() + 1):
        under = table.lives(pledge.age, year)[1]
        least = least // greatest_shared(least, under) * under
    return least


def check_many(table, pledge, many):
    if many < 1 or many % fewest(table, pledge) != 0:
        raise BadCount("the lives are 1 or more times the fewest")


def alive_at(table, pledge, many, year):
    chance = table.lives(pledge.age, year)
    return many // chance[1] * chance[0]


def book(table, rate, pledge, many):
    check_rate_and_pledge(table, rate, pledge)
    check_many(table, pledge, many)
    told = []
    money = NOUGHT
    for year, row in enumerate(pledge.rows):
        alive = alive_at(table, pledge, many, year)
        dead = alive - alive_at(table, pledge, many, year + 1)
        money = money_at_year_end(rate, money, row, part(alive, 1), part(dead, 1))
        told.append((alive, dead, money))
    return told
