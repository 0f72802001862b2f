"""Promises 11 to 13: quotients and rests, what measures what, common measures, units."""

import inspect
import random
import unittest

from drawn import BIG, POWERS, assert_number, assert_refused, near_nought, numbers, product
from goldplaces import measures as module
from goldplaces.errors import NoNumber
from goldplaces.measures import common, divided, measures, unit

SMALL = [(a, b) for a in range(-6, 7) for b in range(-6, 7)]

EDGES = [
    (0, 0), (1, 0), (-1, 0), (0, 1), (0, -1), (1, 1), (2, 0), (-1, 2), (1, -2),
    (BIG, BIG), (BIG, -BIG), (-BIG, BIG), (-BIG, -BIG), (BIG, 0), (0, BIG), (-BIG, 0), (0, -BIG), (BIG, 1), (1, BIG),
    # Somewhat beyond the bound.
    (3 * BIG + 1, -2 * BIG), (-BIG - 1, 7 * BIG),
]

# Some of those near nought, on both sides of it, with the norms 1 and -1.
NEAR = near_nought(BIG)[::21] + near_nought(BIG)[-4:]

DRAWN = numbers("measures", 300, BIG)


def norm_of(number):
    a, b = number
    return a * a + a * b - b * b


def pairs():
    some = EDGES + NEAR
    return (
        [(one, other) for one in some for other in some]
        + list(zip(DRAWN, numbers("other measures", len(DRAWN), BIG)))
        + list(zip(DRAWN, numbers("small ones", len(DRAWN), 100)))
        + list(zip(numbers("small ones", len(DRAWN), 100), DRAWN))
    )


def sum_of(one, other):
    return (one[0] + other[0], one[1] + other[1])


def has_quotient(one, other):
    """Whether some number times the first one is the second one, by the equations for its parts."""
    a, b = one
    c, d = other
    # The parts x and y with a x + b y = c and b x + (a + b) y = d.
    size = a * (a + b) - b * b
    if size == 0:
        return other == (0, 0)
    return (c * (a + b) - d * b) % size == 0 and (a * d - b * c) % size == 0


class Interface(unittest.TestCase):

    def test_arguments(self):
        wanted = {
            "divided": ["one", "other"],
            "measures": ["one", "other"],
            "common": ["one", "other"],
            "unit": ["number"],
        }
        for name, arguments in wanted.items():
            with self.subTest(name=name):
                self.assertEqual(list(inspect.signature(getattr(module, name)).parameters), arguments)


class Divisions(unittest.TestCase):

    def assert_divided(self, one, other):
        told = divided(one, other)
        self.assertIs(type(told), tuple)
        self.assertEqual(len(told), 2)
        quotient, rest = told
        assert_number(self, quotient)
        assert_number(self, rest)
        self.assertEqual(sum_of(product(quotient, other), rest), one)
        self.assertLess(abs(norm_of(rest)), abs(norm_of(other)))

    def test_small_ones_each_by_each(self):
        for one in SMALL:
            for other in SMALL:
                if other != (0, 0):
                    with self.subTest(one=one, other=other):
                        self.assert_divided(one, other)

    def test_halves(self):
        # Quotients that lie right between whole numbers, by divisors with norms above and below nought.
        for other in ((2, 0), (-2, 0), (0, 2), (0, -2), (2, 2), (-2, 4), (4, 0), (0, 6)):
            for half in SMALL:
                one = tuple(part // 2 for part in product(half, other))
                with self.subTest(one=one, other=other):
                    self.assertEqual(product(half, other), (2 * one[0], 2 * one[1]))
                    self.assert_divided(one, other)

    def test_numbers_of_all_sizes(self):
        below = 0
        above = 0
        for one, other in pairs():
            if other == (0, 0):
                continue
            if norm_of(other) < 0:
                below += 1
            else:
                above += 1
            with self.subTest(one=one, other=other):
                self.assert_divided(one, other)
        self.assertGreater(below, 300)
        self.assertGreater(above, 300)

    def test_nought_is_divided(self):
        for other in EDGES + NEAR + DRAWN:
            if other != (0, 0):
                with self.subTest(other=other):
                    self.assert_divided((0, 0), other)

    def test_by_a_unit_there_is_no_rest(self):
        for one in EDGES + DRAWN[:50]:
            for k in (-280, -1, 0, 1, 2, 280):
                with self.subTest(one=one, k=k):
                    self.assert_divided(one, POWERS[k])
                    self.assertEqual(divided(one, POWERS[k])[1], (0, 0))

    def test_by_nought_it_is_refused(self):
        for one in EDGES + NEAR + DRAWN[:50]:
            with self.subTest(one=one):
                assert_refused(self, NoNumber, divided, one, (0, 0))


class Measuring(unittest.TestCase):

    def assert_measures(self, one, other, wanted):
        self.assertIs(measures(one, other), wanted)

    def test_some(self):
        self.assert_measures((2, 0), (4, 6), True)
        self.assert_measures((2, 0), (4, 5), False)
        self.assert_measures((2, 0), (3, 6), False)
        self.assert_measures((-1, 2), (5, 0), True)
        self.assert_measures((5, 0), (-1, 2), False)
        self.assert_measures((4, 1), (19, 0), True)
        self.assert_measures((4, 1), (0, 19), True)
        self.assert_measures((4, 1), (18, 0), False)
        self.assert_measures((0, 1), (1, 0), True)

    def test_nought(self):
        self.assert_measures((0, 0), (0, 0), True)
        for number in EDGES + NEAR + DRAWN + SMALL:
            if number != (0, 0):
                with self.subTest(number=number):
                    self.assert_measures((0, 0), number, False)
                    self.assert_measures(number, (0, 0), True)

    def test_small_ones_each_by_each(self):
        for one in SMALL:
            for other in SMALL:
                with self.subTest(one=one, other=other):
                    self.assert_measures(one, other, has_quotient(one, other))

    def test_products(self):
        for one, other in pairs():
            told = product(one, other)
            with self.subTest(one=one, other=other):
                self.assert_measures(one, told, True)
                self.assert_measures(other, told, True)
                beside = sum_of(told, (1, 0))
                self.assert_measures(one, beside, has_quotient(one, beside))

    def test_just_beside_a_product(self):
        for one, other in pairs():
            if abs(norm_of(one)) > 1:
                # No number but a unit measures two that lie a unit apart.
                for step in ((1, 0), (0, 1), (-1, 1), (-1, 0)):
                    with self.subTest(one=one, other=other, step=step):
                        self.assert_measures(one, sum_of(product(one, other), step), False)

    def test_drawn_ones(self):
        for one, other in pairs():
            with self.subTest(one=one, other=other):
                self.assert_measures(one, other, has_quotient(one, other))

    def test_a_unit_measures_all(self):
        for k in (-288, -101, -1, 0, 1, 150, 288):
            for number in EDGES + NEAR:
                with self.subTest(k=k, number=number):
                    self.assert_measures(POWERS[k], number, True)
                    self.assert_measures((-POWERS[k][0], -POWERS[k][1]), number, True)


class CommonMeasures(unittest.TestCase):

    def assert_common(self, one, other):
        told = common(one, other)
        self.assertIs(type(told), tuple)
        self.assertEqual(len(told), 3)
        for number in told:
            assert_number(self, number)
        measure, s, t = told
        self.assertEqual(sum_of(product(s, one), product(t, other)), measure)
        self.assertTrue(has_quotient(measure, one))
        self.assertTrue(has_quotient(measure, other))
        return measure

    def test_of_nought_and_nought(self):
        self.assertEqual(self.assert_common((0, 0), (0, 0)), (0, 0))

    def test_of_nought_and_another(self):
        for number in EDGES + NEAR + DRAWN[:80] + SMALL:
            with self.subTest(number=number):
                for measure in (self.assert_common(number, (0, 0)), self.assert_common((0, 0), number)):
                    self.assertTrue(has_quotient(number, measure))

    def test_small_ones_each_with_each(self):
        for one in SMALL:
            for other in SMALL:
                with self.subTest(one=one, other=other):
                    self.assert_common(one, other)

    def test_numbers_of_all_sizes(self):
        for one, other in pairs():
            with self.subTest(one=one, other=other):
                self.assert_common(one, other)

    def test_a_factor_of_both_measures_it(self):
        factors = numbers("factors", len(DRAWN), 10 ** 25)
        ones = numbers("times one", len(DRAWN), 10 ** 30)
        others = numbers("times other", len(DRAWN), 10 ** 30)
        for factor, one, other in zip(factors, ones, others):
            with self.subTest(factor=factor, one=one, other=other):
                measure = self.assert_common(product(factor, one), product(factor, other))
                self.assertTrue(has_quotient(factor, measure))

    def test_of_a_number_and_itself(self):
        for number in EDGES + NEAR + DRAWN[:80]:
            with self.subTest(number=number):
                self.assertTrue(has_quotient(number, self.assert_common(number, number)))

    def test_neighbours_have_a_unit(self):
        for number in EDGES + DRAWN[:80]:
            with self.subTest(number=number):
                measure = self.assert_common(number, sum_of(number, (1, 0)))
                self.assertEqual(abs(norm_of(measure)), 1)


class Units(unittest.TestCase):

    def assert_unit(self, number, side, k):
        told = unit(number)
        self.assertIs(type(told), tuple)
        self.assertEqual([type(part) for part in told], [int, int])
        self.assertEqual(told, (side, k))

    def test_some(self):
        self.assert_unit((1, 0), 1, 0)
        self.assert_unit((-1, 0), -1, 0)
        self.assert_unit((0, 1), 1, 1)
        self.assert_unit((0, -1), -1, 1)
        self.assert_unit((-1, 1), 1, -1)
        self.assert_unit((1, -1), -1, -1)
        self.assert_unit((5, -3), 1, -4)
        self.assert_unit((-3, -5), -1, 5)

    def test_from_far_below_to_far_above(self):
        for k in range(-320, 321):
            with self.subTest(k=k):
                self.assert_unit(POWERS[k], 1, k)
                self.assert_unit((-POWERS[k][0], -POWERS[k][1]), -1, k)

    def test_those_near_nought(self):
        for number in near_nought(BIG):
            with self.subTest(number=number):
                side, k = unit(number)
                self.assertEqual((side * POWERS[k][0], side * POWERS[k][1]), number)

    def test_small_ones(self):
        units = {}
        for k in range(-10, 11):
            units[POWERS[k]] = (1, k)
            units[(-POWERS[k][0], -POWERS[k][1])] = (-1, k)
        for a in range(-25, 26):
            for b in range(-25, 26):
                with self.subTest(number=(a, b)):
                    self.assertEqual(unit((a, b)), units.get((a, b)))

    def test_numbers_that_are_none(self):
        self.assertIs(unit((0, 0)), None)
        self.assertIs(unit((2, 0)), None)
        self.assertIs(unit((1, 2 * BIG)), None)
        for number in [(BIG, BIG), (BIG, -BIG), (-BIG, 0), (0, BIG), (BIG + 1, -BIG)]:
            with self.subTest(number=number):
                self.assertIs(unit(number), None)

    def test_beside_units(self):
        for k in list(range(-288, 289, 9)):
            for step in ((1, 0), (-1, 0), (0, 1), (0, -1), (3, 3)):
                beside = sum_of(POWERS[k], step)
                if abs(norm_of(beside)) != 1:
                    with self.subTest(k=k, step=step):
                        self.assertIs(unit(beside), None)

    def test_drawn_ones(self):
        draw = random.Random("units")
        for number in DRAWN:
            if abs(norm_of(number)) != 1:
                k = draw.randint(-200, 200)
                with self.subTest(number=number, k=k):
                    self.assertIs(unit(number), None)
                    self.assertIs(unit(product(number, POWERS[k])), None)


if __name__ == "__main__":
    unittest.main()
