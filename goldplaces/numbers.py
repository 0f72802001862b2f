"""Numbers a + b G, each told as the tuple (a, b) of two whole numbers.

G is the golden number, the one above nought with G times G = G + 1.
"""


def summed(one, other):
    return (one[0] + other[0], one[1] + other[1])


def less(one, other):
    return (one[0] - other[0], one[1] - other[1])


def times(one, other):
    # G times G is G + 1, so the product of the two G parts counts in both places.
    both = one[1] * other[1]
    return (one[0] * other[0] + both, one[0] * other[1] + one[1] * other[0] + both)


def turned(number):
    return (number[0] + number[1], -number[1])


def norm(number):
    a = number[0]
    b = number[1]
    return a * a + a * b - b * b


def sign(number):
    # The norm is the product of the number and its other one, so it tells whether
    # the two lie on one side of nought. If they do, their sum 2 a + b lies there too;
    # if not, the number lies where their difference does, which is b times (2 G - 1).
    # As G is no fraction, the norm is 0 for (0, 0) alone.
    product = norm(number)
    if product == 0:
        return 0
    guide = 2 * number[0] + number[1] if product > 0 else number[1]
    return 1 if guide > 0 else -1


def power(k):
    # Two powers side by side are enough to walk by sums upwards, by differences downwards.
    here = (1, 0)
    above = (0, 1)
    for step in range(abs(k)):
        if k > 0:
            beyond = summed(here, above)
            here = above
            above = beyond
        else:
            below = less(above, here)
            above = here
            here = below
    return here
