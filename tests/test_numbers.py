"""Promises 1 to 5: numbers, their sums and products, their signs, the powers."""

import inspect
import unittest
from decimal import Decimal, localcontext

from goldplaces import numbers
from goldplaces.numbers import less, norm, power, sign, summed, times, turned

BIG = 10 ** 60

SMALL = [(a, b) for a in range(-4, 5) for b in range(-4, 5)]

LARGE = [
    (BIG, BIG), (BIG, -BIG), (-BIG, BIG), (-BIG, -BIG),
    (BIG, 0), (0, BIG), (-BIG, 0), (0, -BIG),
    (BIG - 1, 1 - BIG), (BIG - 1, BIG), (1, -BIG), (-BIG, 3),
    (123456789012345678901234567890123456789012345678901234567890,
     -987654321098765432109876543210987654321098765432109876543210),
    # Somewhat beyond the bound.
    (BIG + 1, -BIG - 7), (-3 * BIG, 2 * BIG + 1),
]

SOME = SMALL[::5] + LARGE


def fibonacci_pairs():
    """Neighbours F(n), F(n + 1) for n = 1, 2, .. as long as they have at most sixty figures."""
    pairs = []
    here, above = 1, 1
    while above < BIG:
        pairs.append((here, above))
        here, above = above, here + above
    return pairs


def as_matrix(number):
    """a + b G as a times the one matrix and b times a matrix whose square is itself and one."""
    a, b = number
    return ((a, b), (b, a + b))


def matrix_product(one, other):
    return tuple(
        tuple(sum(one[i][k] * other[k][j] for k in range(2)) for j in range(2)) for i in range(2)
    )


def sign_by_figures(number):
    """The sign from four hundred figures of G: ample, as no number in bounds but nought is so small."""
    with localcontext() as context:
        context.prec = 400
        golden = (1 + Decimal(5).sqrt()) / 2
        amount = Decimal(number[0]) + Decimal(number[1]) * golden
        return (amount > 0) - (amount < 0)


class NumberCase(unittest.TestCase):

    def assert_number(self, told, wanted):
        self.assertIs(type(told), tuple)
        self.assertEqual([type(part) for part in told], [int, int])
        self.assertEqual(told, wanted)

    def assert_whole(self, told, wanted):
        self.assertIs(type(told), int)
        self.assertEqual(told, wanted)


class Interface(unittest.TestCase):

    def test_arguments(self):
        wanted = {
            "summed": ["one", "other"],
            "less": ["one", "other"],
            "times": ["one", "other"],
            "turned": ["number"],
            "norm": ["number"],
            "sign": ["number"],
            "power": ["k"],
        }
        for name, arguments in wanted.items():
            with self.subTest(name=name):
                self.assertEqual(list(inspect.signature(getattr(numbers, name)).parameters), arguments)


class Sums(NumberCase):

    def test_small_ones(self):
        self.assert_number(summed((1, 2), (3, 5)), (4, 7))
        self.assert_number(summed((1, 2), (-3, -5)), (-2, -3))
        self.assert_number(less((1, 2), (3, 7)), (-2, -5))
        self.assert_number(less((-1, 2), (3, -7)), (-4, 9))

    def test_nought(self):
        self.assert_number(summed((0, 0), (0, 0)), (0, 0))
        self.assert_number(less((0, 0), (0, 0)), (0, 0))
        for number in SOME:
            with self.subTest(number=number):
                self.assert_number(summed(number, (0, 0)), number)
                self.assert_number(summed((0, 0), number), number)
                self.assert_number(less(number, (0, 0)), number)
                self.assert_number(less((0, 0), number), (-number[0], -number[1]))
                self.assert_number(less(number, number), (0, 0))

    def test_large_ones_are_exact(self):
        self.assert_number(summed((BIG, -BIG), (1, 1)), (BIG + 1, 1 - BIG))
        self.assert_number(summed((BIG, BIG), (BIG, BIG)), (2 * BIG, 2 * BIG))
        self.assert_number(less((BIG, -BIG), (1, 1)), (BIG - 1, -BIG - 1))
        self.assert_number(less((BIG, BIG), (-BIG, -BIG)), (2 * BIG, 2 * BIG))

    def test_part_by_part(self):
        for one in SOME:
            for other in SOME:
                with self.subTest(one=one, other=other):
                    self.assert_number(summed(one, other), (one[0] + other[0], one[1] + other[1]))
                    self.assert_number(less(one, other), (one[0] - other[0], one[1] - other[1]))


class Products(NumberCase):

    def test_small_ones(self):
        self.assert_number(times((0, 1), (0, 1)), (1, 1))
        self.assert_number(times((1, 2), (3, 5)), (13, 21))
        self.assert_number(times((2, -1), (3, 4)), (2, 1))
        self.assert_number(times((-1, -2), (3, 5)), (-13, -21))
        self.assert_number(times((2, 0), (3, 0)), (6, 0))
        self.assert_number(times((2, 0), (0, 3)), (0, 6))

    def test_nought_and_one(self):
        for number in SOME:
            with self.subTest(number=number):
                self.assert_number(times(number, (0, 0)), (0, 0))
                self.assert_number(times((0, 0), number), (0, 0))
                self.assert_number(times(number, (1, 0)), number)
                self.assert_number(times((1, 0), number), number)
                self.assert_number(times(number, (-1, 0)), (-number[0], -number[1]))

    def test_large_ones_are_exact(self):
        self.assert_number(times((BIG, BIG), (BIG, BIG)), (2 * BIG ** 2, 3 * BIG ** 2))
        self.assert_number(times((BIG, -BIG), (BIG, BIG)), (0, -BIG ** 2))
        self.assert_number(times((BIG, 1), (1, -BIG)), (0, 1 - BIG - BIG ** 2))

    def test_as_matrices(self):
        for numbers_here in (SMALL, SOME):
            for one in numbers_here:
                for other in numbers_here:
                    wanted = matrix_product(as_matrix(one), as_matrix(other))
                    with self.subTest(one=one, other=other):
                        self.assert_number(times(one, other), wanted[0])


class OtherOnesAndNorms(NumberCase):

    def test_small_other_ones(self):
        self.assert_number(turned((0, 0)), (0, 0))
        self.assert_number(turned((5, 0)), (5, 0))
        self.assert_number(turned((0, 1)), (1, -1))
        self.assert_number(turned((1, -1)), (0, 1))
        self.assert_number(turned((2, 3)), (5, -3))
        self.assert_number(turned((-2, -3)), (-5, 3))

    def test_large_other_ones(self):
        self.assert_number(turned((BIG, BIG)), (2 * BIG, -BIG))
        self.assert_number(turned((BIG, 1 - BIG)), (1, BIG - 1))

    def test_turned_twice_is_the_number(self):
        for number in SMALL + LARGE:
            with self.subTest(number=number):
                self.assert_number(turned(turned(number)), number)

    def test_small_norms(self):
        self.assert_whole(norm((0, 0)), 0)
        self.assert_whole(norm((1, 0)), 1)
        self.assert_whole(norm((0, 1)), -1)
        self.assert_whole(norm((3, 0)), 9)
        self.assert_whole(norm((-3, 0)), 9)
        self.assert_whole(norm((0, -3)), -9)
        self.assert_whole(norm((2, 3)), 1)
        self.assert_whole(norm((2, -3)), -11)
        self.assert_whole(norm((-2, -3)), 1)
        self.assert_whole(norm((4, 1)), 19)

    def test_large_norms_are_exact(self):
        self.assert_whole(norm((BIG, BIG)), BIG ** 2)
        self.assert_whole(norm((BIG, -BIG)), -BIG ** 2)
        self.assert_whole(norm((BIG + 1, -BIG)), 1 + BIG - BIG ** 2)
        for here, above in fibonacci_pairs():
            with self.subTest(here=here):
                self.assertEqual(abs(norm((here, above))), 1)

    def test_the_norm_is_the_product_with_the_other_one(self):
        for number in SMALL + LARGE:
            with self.subTest(number=number):
                self.assert_number(times(number, turned(number)), (norm(number), 0))
                self.assert_number(times(turned(number), number), (norm(number), 0))


class Signs(NumberCase):

    def test_nought_alone_has_the_sign_nought(self):
        self.assert_whole(sign((0, 0)), 0)
        for number in SMALL + LARGE:
            with self.subTest(number=number):
                self.assertEqual(sign(number) == 0, number == (0, 0))

    def test_one_part_nought(self):
        for part in (1, 2, 77, BIG):
            with self.subTest(part=part):
                self.assert_whole(sign((part, 0)), 1)
                self.assert_whole(sign((0, part)), 1)
                self.assert_whole(sign((-part, 0)), -1)
                self.assert_whole(sign((0, -part)), -1)

    def test_both_parts_on_one_side(self):
        for number in ((1, 1), (1, 9), (9, 1), (BIG, 1), (1, BIG), (BIG, BIG)):
            with self.subTest(number=number):
                self.assert_whole(sign(number), 1)
                self.assert_whole(sign((-number[0], -number[1])), -1)

    def test_one_part_on_each_side(self):
        self.assert_whole(sign((2, -1)), 1)
        self.assert_whole(sign((1, -1)), -1)
        self.assert_whole(sign((-1, 1)), 1)
        self.assert_whole(sign((-2, 1)), -1)
        self.assert_whole(sign((8, -5)), -1)
        self.assert_whole(sign((-8, 5)), 1)
        self.assert_whole(sign((BIG, -BIG)), -1)
        self.assert_whole(sign((-BIG, BIG)), 1)
        self.assert_whole(sign((BIG, -1)), 1)
        self.assert_whole(sign((1, -BIG)), -1)

    def test_very_near_nought(self):
        pairs = fibonacci_pairs()
        self.assertEqual(len(str(pairs[-1][1])), 60)
        # F(n + 1) - F(n) G is below nought for n = 1, above it for n = 2, and so on in turn.
        wanted = -1
        for here, above in pairs:
            with self.subTest(here=here):
                self.assert_whole(sign((above, -here)), wanted)
                self.assert_whole(sign((-above, here)), -wanted)
            wanted = -wanted

    def test_beside_the_nearest_ones(self):
        for here, above in fibonacci_pairs():
            for a in (above - 1, above, above + 1):
                with self.subTest(a=a, b=-here):
                    self.assert_whole(sign((a, -here)), sign_by_figures((a, -here)))
                    self.assert_whole(sign((-a, here)), sign_by_figures((-a, here)))

    def test_by_figures(self):
        for number in [(a, b) for a in range(-30, 31) for b in range(-20, 21)] + LARGE:
            with self.subTest(number=number):
                self.assert_whole(sign(number), sign_by_figures(number))


class Powers(NumberCase):

    def test_small_ones(self):
        wanted = {
            -4: (5, -3), -3: (-3, 2), -2: (2, -1), -1: (-1, 1), 0: (1, 0),
            1: (0, 1), 2: (1, 1), 3: (1, 2), 4: (2, 3), 5: (3, 5),
        }
        for k, number in wanted.items():
            with self.subTest(k=k):
                self.assert_number(power(k), number)

    def test_each_is_the_sum_of_the_two_ahead_of_it(self):
        for k in range(-210, 211):
            with self.subTest(k=k):
                ahead, nearer = power(k - 2), power(k - 1)
                self.assert_number(power(k), (ahead[0] + nearer[0], ahead[1] + nearer[1]))

    def test_the_product_of_two_is_the_power_of_the_sum(self):
        places = list(range(-200, 201, 16)) + [-199, -3, -2, -1, 1, 2, 3, 199]
        for one in places:
            for other in places:
                with self.subTest(one=one, other=other):
                    self.assert_number(times(power(one), power(other)), power(one + other))

    def test_edges(self):
        # The Fibonacci numbers F(199), F(200), F(201).
        f199 = 173402521172797813159685037284371942044301
        f200 = 280571172992510140037611932413038677189525
        f201 = f199 + f200
        self.assert_number(power(200), (f199, f200))
        self.assert_number(power(-200), (f201, -f200))
        self.assert_number(power(201), (f200, f201))
        self.assert_number(power(-201), (-f200 - f201, f201))

    def test_beyond_the_edges(self):
        for k in (201, 250, 300, 400):
            with self.subTest(k=k):
                self.assert_number(times(power(k), power(-k)), (1, 0))
                self.assert_number(turned(power(k)), tuple((-1) ** k * part for part in power(-k)))

    def test_all_are_above_nought_and_rise(self):
        for k in range(-205, 206):
            with self.subTest(k=k):
                self.assert_whole(sign(power(k)), 1)
                self.assert_whole(sign(less(power(k + 1), power(k))), 1)


class NothingIsKept(NumberCase):

    def test_the_same_is_told_again(self):
        one, other = (7, -3), (-2, BIG)
        calls = [
            lambda: summed(one, other), lambda: less(one, other), lambda: times(one, other),
            lambda: turned(one), lambda: norm(one), lambda: sign(one),
            lambda: power(200), lambda: power(-200), lambda: power(0),
        ]
        first = [call() for call in calls]
        again = [call() for call in reversed(calls)]
        self.assertEqual(first, list(reversed(again)))
        self.assertEqual((one, other), ((7, -3), (-2, BIG)))


if __name__ == "__main__":
    unittest.main()
