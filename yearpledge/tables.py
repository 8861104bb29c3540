"""Tables of the chances to die within the year, and what a coin of a later year is worth."""

from yearpledge.errors import BadRate, BadTable, NoYear
from yearpledge.parts import NOUGHT, ONE, less, part, plus, times

MOST_AGES = 20
MOST_UNDER = 10000


# No refusal shows the number it refuses: Python won't write out a whole number of very many figures.
def check_chance(chance, is_last):
    top = chance[0]
    under = chance[1]
    if not 1 <= under <= MOST_UNDER:
        raise BadTable("the under of a chance is 1 to 10000")
    if not 0 <= top <= under:
        raise BadTable("the top of a chance is nought to its under")
    if is_last and top != under:
        raise BadTable("at the last age the chance is 1")
    if not is_last and top == under:
        raise BadTable("ahead of the last age the chance is below 1")


def check_chances(chances):
    many = len(chances)
    if not 1 <= many <= MOST_AGES:
        raise BadTable("a table has 1 to 20 ages")
    for age, chance in enumerate(chances):
        check_chance(chance, age == many - 1)


def check_rate(rate):
    if not 1 <= rate[0] <= rate[1] <= MOST_UNDER:
        raise BadRate("a rate has 1 <= top <= under <= 10000")


def check_years(years):
    if years < 0:
        raise NoYear("years are nought or more")


class Table:
    def __init__(self, chances):
        check_chances(chances)
        self.chances = [part(chance[0], chance[1]) for chance in chances]

    def ages(self):
        return len(self.chances)

    def check_age(self, age):
        # An index below nought would count from the end of the list, so it is not left to the list to refuse.
        if not 0 <= age < self.ages():
            raise NoYear("the table has no such age")

    def dies(self, age):
        self.check_age(age)
        return self.chances[age]

    def lives(self, age, years):
        self.check_age(age)
        check_years(years)
        if age + years >= self.ages():
            return NOUGHT
        chance = ONE
        for dying in self.chances[age:age + years]:
            chance = times(chance, less(ONE, dying))
        return chance


def later(rate, years):
    check_rate(rate)
    check_years(years)
    yearly = part(rate[0], rate[1])
    top = 1
    under = 1
    # Top and under of the rate share nothing, so neither do their powers: lowest terms hold by themselves.
    for year in range(years):
        top = top * yearly[0]
        under = under * yearly[1]
    return (top, under)


def worth_now(rate, row):
    yearly = later(rate, 1)
    total = NOUGHT
    # From the last year back: all that comes later is worth the rate times itself a year earlier.
    for coins in reversed(row):
        total = plus(coins, times(yearly, total))
    return total
