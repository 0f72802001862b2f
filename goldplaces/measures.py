"""Quotients and rests, what measures what, common measures, units."""

from goldplaces.errors import NoNumber
from goldplaces.numbers import less, norm, sign, times, turned
from goldplaces.rows import row_of


def divided(one, other):
    size = norm(other)
    if size == 0:
        raise NoNumber("nothing is divided by nought")
    # The other one of the divisor turns this into a division by a whole number. With both parts
    # rounded to the nearest, the norm of the rest is at most 5 sixteenths of the divisor's in size.
    widened = times(one, turned(other))
    quotient = (nearest(widened[0], size), nearest(widened[1], size))
    return (quotient, less(one, times(quotient, other)))


def measures(one, other):
    if one == (0, 0):
        return other == (0, 0)
    # Where there is an exact quotient, rounding finds just that one.
    return divided(other, one)[1] == (0, 0)


def common(one, other):
    # Each line is a number with the s and the t that make it from the two that are handed in.
    line = (one, (1, 0), (0, 0))
    following = (other, (0, 0), (1, 0))
    while following[0] != (0, 0):
        quotient = divided(line[0], following[0])[0]
        beyond = line_less(line, quotient, following)
        line = following
        following = beyond
    return line


def unit(number):
    if abs(norm(number)) != 1:
        return None
    side = sign(number)
    # A unit above nought is one power, so its row has one place.
    return (side, row_of(times((side, 0), number))[0])


def nearest(amount, size):
    # Half is added ahead of rounding down; this holds for a size below nought too.
    return (2 * amount + size) // (2 * size)


def line_less(line, quotient, following):
    return (
        less(line[0], times(quotient, following[0])),
        less(line[1], times(quotient, following[1])),
        less(line[2], times(quotient, following[2])),
    )
