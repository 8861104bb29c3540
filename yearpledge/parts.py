"""Exact parts: tuples of two whole numbers, top and under, in lowest terms, under 1 or more."""

NOUGHT = (0, 1)
ONE = (1, 1)


def greatest_shared(one, other):
    while other != 0:
        rest = one % other
        one = other
        other = rest
    return one


def part(top, under):
    shared = greatest_shared(abs(top), abs(under))
    # An under below nought hands its sign to the top when both are taken by a number below nought.
    if under < 0:
        shared = -shared
    return (top // shared, under // shared)


def plus(one, other):
    return part(one[0] * other[1] + other[0] * one[1], one[1] * other[1])


def less(one, other):
    return part(one[0] * other[1] - other[0] * one[1], one[1] * other[1])


def times(one, other):
    return part(one[0] * other[0], one[1] * other[1])


def over(one, other):
    return part(one[0] * other[1], one[1] * other[0])


def summed(row):
    total = NOUGHT
    for one in row:
        total = plus(total, one)
    return total
