"""Tables, rates and pledges that several tests share, and the same sums done in another way."""

from fractions import Fraction
from math import gcd

ONE_AGE = [(1, 1)]
NOBODY_EARLY = [(0, 3), (0, 1), (0, 10000), (4, 4)]
SMALL = [(1, 4), (2, 4), (0, 7), (30, 10000), (6, 6)]
TEN_THOUSANDS = [(1, 10000), (9999, 10000), (0, 10000), (5000, 10000), (10000, 10000)]
TWENTY = [(age, 9900 + 5 * age) for age in range(19)] + [(10000, 10000)]
TABLES = (ONE_AGE, [(10000, 10000)], [(0, 3), (4, 4)], NOBODY_EARLY, SMALL, TEN_THOUSANDS, TWENTY)

RATES = ((1, 1), (7, 7), (9, 10), (18, 20), (1, 10000), (9999, 10000), (9500, 10000))
LONG = 10 ** 5000
BAD_RATES = ((0, 1), (0, 10000), (-1, 2), (-1, -2), (-2, -1), (-1, -1), (0, 0), (1, 0), (1, -1), (2, 1), (10000, 9999),
             (10001, 10000), (1, 10001), (10001, 10001), (5000, 20000), (LONG, LONG), (1, LONG), (-LONG, 1))

ROWS = [(100, 0, 1000), (50, 10, 500), (0, 20, 300), (1000000, 0, 0), (0, 1000000, 0), (0, 0, 1000000), (0, 0, 0),
        (7, 5, 3), (1000000, 1000000, 1000000), (1, 999999, 17)]
TWENTY_ROWS = ROWS + [(row[2], row[0], row[1]) for row in ROWS]

# For sums by hand: of 8 at age 0 there live 6 a year later, 3 after two years, and none after three.
THREE_AGES = [(1, 4), (2, 4), (1, 1)]
THREE_ROWS = [(100, 0, 1000), (50, 10, 500), (0, 20, 300)]


def asked_pledges(chances):
    """Ages of the table, each with one row, with rows to just ahead of the table's end, and just to it."""
    told = []
    many = len(chances)
    for age in sorted({0, 1, 2, many // 2, many - 2, many - 1} & set(range(many))):
        left = len(chances) - age
        for years in sorted({1, left - 1, left} - {0}):
            first = age % 3
            told.append((age, (TWENTY_ROWS + TWENTY_ROWS)[first:first + years]))
    return told


def cases():
    """Tables, rates and pledges (an age and rows) that go together."""
    for chances in TABLES:
        for rate in RATES:
            for age, rows in asked_pledges(chances):
                yield chances, rate, age, rows


def as_part(fraction):
    return (fraction.numerator, fraction.denominator)


def as_fraction(told):
    return Fraction(told[0], told[1])


def chance_to_live(chances, age, years):
    alive = Fraction(1)
    for year in range(years):
        dying = Fraction(*chances[age + year]) if age + year < len(chances) else Fraction(1)
        alive *= 1 - dying
    return alive


def is_part(told):
    return (isinstance(told, tuple) and len(told) == 2 and [type(number) for number in told] == [int, int]
            and told[1] >= 1 and gcd(told[0], told[1]) == 1)


def ways(chances, rate, age, rows):
    """For each way that it may end, the chance, and the worth of what is then paid and due: each way told by itself."""
    told = []
    for died in range(len(rows) + 1):
        chance = chance_to_live(chances, age, died)
        if died < len(rows):
            chance -= chance_to_live(chances, age, died + 1)
        begun = rows[:died + 1]
        paid = sum((row[1] * Fraction(*rate) ** year for year, row in enumerate(begun)), Fraction(0))
        if died < len(rows):
            paid += rows[died][2] * Fraction(*rate) ** (died + 1)
        due = sum((row[0] * Fraction(*rate) ** year for year, row in enumerate(begun)), Fraction(0))
        told.append((chance, paid, due))
    return told


def weighed_paid(chances, rate, age, rows):
    return sum((chance * paid for chance, paid, due in ways(chances, rate, age, rows)), Fraction(0))


def weighed_due(chances, rate, age, rows):
    return sum((chance * due for chance, paid, due in ways(chances, rate, age, rows)), Fraction(0))
