"""Rows: lists of places, each less by two or more than the one ahead of it.

A row stands for the sum of the powers of G at its places.
"""

from goldplaces.errors import NoNumber, NoRow
from goldplaces.numbers import less, power, sign, summed, times

GREATEST_PLACE = 80
LEAST_PLACE = -80


def is_row(places):
    for place in places:
        if place > GREATEST_PLACE or place < LEAST_PLACE:
            return False
    for ahead, place in zip(places, places[1:]):
        if ahead - place < 2:
            return False
    return True


def value(row):
    if not is_row(row):
        raise NoRow("a row has places from 80 to -80, each less by two or more than the one ahead of it")
    return sum_of_powers(row)


def row_of(number):
    if sign(number) < 0:
        raise NoNumber("a number below nought has no row")
    row = []
    rest = number
    place = place_above(number)
    here = power(place)
    above = power(place + 1)
    # The rest is always less than the power above. So once a power is taken off, what is left
    # is less than the next lower one, and that one is never taken: two places never touch.
    while rest != (0, 0):
        left = less(rest, here)
        if sign(left) >= 0:
            row.append(place)
            rest = left
        below = less(above, here)
        above = here
        here = below
        place -= 1
    return row


def cleaned(places):
    return row_of(sum_of_powers(places))


def added(one, other):
    return row_of(summed(value(one), value(other)))


def multiplied(one, other):
    return row_of(times(value(one), value(other)))


def order(one, other):
    return sign(less(value(one), value(other)))


def sum_of_powers(places):
    total = (0, 0)
    for place in places:
        total = summed(total, power(place))
    return total


def place_above(number):
    # G is less than 2, so the number is at most the size below, which is less than 2 to the power
    # of its bits; and 2 is less than G times G, so twice as many places are enough.
    size = abs(number[0]) + 2 * abs(number[1])
    return 2 * size.bit_length()
