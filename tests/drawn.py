"""What the tests share: inputs drawn from written seeds, powers from a table of their own, and refusals."""

import random

from goldplaces.errors import GoldError, NoNote, NoNumber, NoRow

REFUSALS = (NoNumber, NoRow, NoNote)

# Where a row is asked for, and for all the rest.
FAR = 10 ** 12
BIG = 10 ** 60


def table_of_powers(furthest):
    powers = {0: (1, 0), 1: (0, 1)}
    for k in range(2, furthest + 1):
        powers[k] = tuple(x + y for x, y in zip(powers[k - 1], powers[k - 2]))
    for k in range(-1, -furthest - 1, -1):
        powers[k] = tuple(x - y for x, y in zip(powers[k + 2], powers[k + 1]))
    return powers


POWERS = table_of_powers(700)


def total(places):
    """The sum of the powers of any places."""
    return (sum(POWERS[place][0] for place in places), sum(POWERS[place][1] for place in places))


def apart(places):
    """Whether each place is less by two or more than the one ahead of it."""
    return all(ahead - place >= 2 for ahead, place in zip(places, places[1:]))


def rows(seed, count):
    """Rows of up to thirty places from -80 to 80, some of them close together."""
    draw = random.Random(seed)
    told = []
    for step in range(count):
        length = draw.randint(0, 30)
        edge = draw.choice((80, 80, length + draw.randint(0, 10), 60))
        least = -edge if edge == 80 else draw.randint(-80, 80 - 2 * edge)
        chosen = sorted(draw.sample(range(least, least + 2 * edge - length + 2), length))
        told.append([place + k for k, place in enumerate(chosen)][::-1])
    return told


def place_lists(seed, count):
    """Lists of up to sixty places from -80 to 80, in any order, some places several times."""
    draw = random.Random(seed)
    told = []
    for step in range(count):
        least = draw.randint(-80, 80)
        greatest = draw.choice((80, draw.randint(least, 80), min(80, least + 3)))
        told.append([draw.randint(least, greatest) for k in range(draw.randint(0, 60))])
    return told


def whole_number(draw, bound):
    """A whole number of any size up to the bound, either way."""
    size = 10 ** draw.randint(0, len(str(bound)) - 1)
    return draw.randint(-min(size, bound), min(size, bound))


def numbers(seed, count, bound):
    draw = random.Random(seed)
    return [(whole_number(draw, bound), whole_number(draw, bound)) for k in range(count)]


def near_nought(bound):
    """A Fibonacci number less the next lower one times G, and these turned about: on both sides of nought."""
    told = []
    lower, number = 1, 1
    while number <= bound:
        told += [(number, -lower), (-number, lower)]
        lower, number = number, lower + number
    return told


def product(one, other):
    return (
        one[0] * other[0] + one[1] * other[1],
        one[0] * other[1] + one[1] * other[0] + one[1] * other[1],
    )


def assert_number(case, told):
    case.assertIs(type(told), tuple)
    case.assertEqual([type(part) for part in told], [int, int])


def assert_places(case, told):
    case.assertIs(type(told), list)
    case.assertEqual([place for place in told if type(place) is not int], [])


def assert_refused(case, refusal, call, *handed):
    """That the call is refused with just this class, which GoldError and ValueError take and the others don't."""
    with case.assertRaises(refusal) as caught:
        call(*handed)
    case.assertIs(type(caught.exception), refusal)
    case.assertIsInstance(caught.exception, GoldError)
    case.assertIsInstance(caught.exception, ValueError)
    for another in REFUSALS:
        if another is not refusal:
            case.assertNotIsInstance(caught.exception, another)
