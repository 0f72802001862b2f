"""Promises 6 to 10: rows, their values, the row of a number, order, cleaning, sums and products."""

import inspect
import itertools
import random
import unittest

from drawn import (
    BIG, FAR, POWERS, apart, assert_number, assert_places, assert_refused, near_nought, numbers, place_lists,
    product, rows, total,
)
from goldplaces import rows as module
from goldplaces.errors import NoNumber, NoRow
from goldplaces.numbers import less, sign, times
from goldplaces.rows import added, cleaned, is_row, multiplied, order, row_of, value

ROWS = rows("rows", 400) + [[], [80], [-80], [0], [80, -80], list(range(80, -81, -2))]

PAIRS = list(zip(ROWS, rows("other rows", len(ROWS)))) + [([], []), ([80], [-80]), ([], [-80]), ([80, -80], [80])]

NO_ROWS = [
    [81], [-81], [81, 3], [3, -81], [80, 78, -81], [82, 80], [-80, -82], [1000], [-1000], [10 ** 5000], [-10 ** 5000],
    [1, 0], [0, 1], [2, 2], [0, 0], [-3, -4], [-4, -3], [0, 2], [-2, 0], [-80, 80], [5, 3, 2], [5, 4, 2], [5, 3, 3],
    [5, 3, 5], [5, 2, 3], [80, 79], [-79, -80], [80, 80], [-80, -80],
]


def small_rows(places):
    """Every row of the places that are handed in, each less by one than the one ahead of it."""
    if not places:
        return [[]]
    without = small_rows(places[1:])
    return without + [[places[0]] + row for row in small_rows(places[2:])]


SMALL_ROWS = small_rows(list(range(5, -7, -1)))


def broken(row, draw):
    """A list that is just no row any more."""
    k = draw.randrange(len(row))
    return draw.choice((
        row[:k + 1] + row[k:],
        row[:k] + [row[k] + 1, row[k]] + row[k + 1:],
        row[:k] + [row[k], row[k] - 1] + row[k + 1:],
        row[:k] + [row[k]] + [row[k] + 2] + row[k + 1:],
        [81] + [place for place in row if place < 80],
        [place for place in row if place > -80] + [-81],
    ))


def broken_rows():
    draw = random.Random("broken")
    return NO_ROWS + [broken(row, draw) for row in ROWS if row]


class Interface(unittest.TestCase):

    def test_arguments(self):
        wanted = {
            "is_row": ["places"],
            "value": ["row"],
            "row_of": ["number"],
            "cleaned": ["places"],
            "added": ["one", "other"],
            "multiplied": ["one", "other"],
            "order": ["one", "other"],
        }
        for name, arguments in wanted.items():
            with self.subTest(name=name):
                self.assertEqual(list(inspect.signature(getattr(module, name)).parameters), arguments)


class WhatARowIs(unittest.TestCase):

    def test_rows(self):
        for row in ROWS + SMALL_ROWS:
            with self.subTest(row=row):
                self.assertIs(is_row(row), True)

    def test_lists_that_are_none(self):
        for places in broken_rows():
            with self.subTest(length=len(places)):
                self.assertIs(is_row(places), False)

    def test_each_list_of_three_small_places(self):
        for places in itertools.product(range(-4, 5), repeat=3):
            with self.subTest(places=places):
                self.assertIs(is_row(list(places)), apart(places))

    def test_each_single_place(self):
        for place in range(-90, 91):
            with self.subTest(place=place):
                self.assertIs(is_row([place]), -80 <= place <= 80)

    def test_each_gap(self):
        for gap in range(-5, 6):
            with self.subTest(gap=gap):
                self.assertIs(is_row([10, 10 - gap]), gap >= 2)
                self.assertIs(is_row([20, 10, 10 - gap, -20]), gap >= 2)


class Values(unittest.TestCase):

    def test_small_ones(self):
        self.assertEqual(value([]), (0, 0))
        self.assertEqual(value([0]), (1, 0))
        self.assertEqual(value([1]), (0, 1))
        self.assertEqual(value([-1]), (-1, 1))
        self.assertEqual(value([1, -2]), (2, 0))
        self.assertEqual(value([2, -2]), (3, 0))
        self.assertEqual(value([3, -1]), (0, 3))

    def test_the_value_is_the_sum_of_the_powers(self):
        for row in ROWS + SMALL_ROWS:
            with self.subTest(row=row):
                told = value(row)
                assert_number(self, told)
                self.assertEqual(told, total(row))

    def test_lists_that_are_no_rows_are_refused(self):
        for places in broken_rows():
            with self.subTest(length=len(places)):
                assert_refused(self, NoRow, value, places)


class RowsOfNumbers(unittest.TestCase):

    def assert_row_of(self, number):
        told = row_of(number)
        assert_places(self, told)
        self.assertTrue(apart(told))
        self.assertEqual(total(told), number)
        return told

    def test_small_ones(self):
        wanted = {
            (0, 0): [], (1, 0): [0], (0, 1): [1], (-1, 1): [-1], (2, -1): [-2],
            (2, 0): [1, -2], (3, 0): [2, -2], (4, 0): [2, 0, -2], (5, 0): [3, -1, -4], (0, 2): [2, -1],
        }
        for number, row in wanted.items():
            with self.subTest(number=number):
                self.assertEqual(row_of(number), row)

    def test_all_near_numbers(self):
        for a in range(-25, 26):
            for b in range(-25, 26):
                with self.subTest(number=(a, b)):
                    if sign((a, b)) < 0:
                        assert_refused(self, NoNumber, row_of, (a, b))
                    else:
                        self.assert_row_of((a, b))

    def test_numbers_of_all_sizes(self):
        edges = [(FAR, FAR), (FAR, 0), (0, FAR), (-FAR, FAR), (FAR, -1), (FAR, -FAR), (-FAR, -FAR), (-FAR, 0)]
        kept = 0
        for number in numbers("numbers with rows", 1500, FAR) + edges:
            with self.subTest(number=number):
                if sign(number) < 0:
                    assert_refused(self, NoNumber, row_of, number)
                else:
                    kept += 1
                    self.assertTrue(is_row(self.assert_row_of(number)))
        self.assertGreater(kept, 500)

    def test_very_near_nought(self):
        above = 0
        for number in near_nought(FAR):
            with self.subTest(number=number):
                if sign(number) > 0:
                    above += 1
                    told = row_of(number)
                    self.assertEqual(len(told), 1)
                    self.assertEqual(POWERS[told[0]], number)
                    self.assertLess(told[0], 0)
                else:
                    assert_refused(self, NoNumber, row_of, number)
        self.assertGreater(above, 50)

    def test_beside_those_near_nought(self):
        for number in near_nought(FAR):
            for step in (-2, -1, 1, 2):
                beside = (number[0] + step, number[1])
                with self.subTest(number=beside):
                    if sign(beside) < 0:
                        assert_refused(self, NoNumber, row_of, beside)
                    else:
                        self.assert_row_of(beside)

    def test_the_row_of_a_value_is_the_row(self):
        for row in ROWS:
            with self.subTest(row=row):
                self.assertEqual(row_of(value(row)), row)

    def test_each_row_has_a_value_of_its_own(self):
        values = {}
        for row in SMALL_ROWS:
            values[value(row)] = row
        self.assertEqual(len(values), len(SMALL_ROWS))
        for number, row in values.items():
            with self.subTest(row=row):
                self.assertEqual(row_of(number), row)

    def test_nothing_is_refused_for_its_size(self):
        for k in (79, 80, 81, 82, 100, 200, 300):
            with self.subTest(k=k):
                self.assertEqual(row_of(POWERS[k]), [k])
                self.assertEqual(row_of(POWERS[-k]), [-k])
        for number in [(3 * FAR, 7 * FAR), (3 * FAR + 1, -FAR), (BIG, BIG), (BIG, 1), (-BIG, BIG + 3)]:
            with self.subTest(number=number):
                self.assert_row_of(number)
        for number in [(-3 * FAR, FAR), (BIG, -BIG), (-BIG, 1)]:
            with self.subTest(number=number):
                assert_refused(self, NoNumber, row_of, number)


class Order(unittest.TestCase):

    def assert_order(self, one, other, wanted):
        told = order(one, other)
        self.assertIs(type(told), int)
        self.assertEqual(told, wanted)
        self.assertEqual(order(other, one), -wanted)

    def test_small_ones(self):
        self.assert_order([], [], 0)
        self.assert_order([-80], [], 1)
        self.assert_order([0], [0], 0)
        self.assert_order([1], [0], 1)
        self.assert_order([0], [-2, -4, -6, -8], 1)
        self.assert_order([3, 1], [3], 1)
        self.assert_order([3, 1], [3, 0], 1)
        self.assert_order([3, 0, -5], [3, 0, -4], -1)
        self.assert_order([80], list(range(79, -81, -2)), 1)
        self.assert_order([0], list(range(-1, -81, -2)), 1)

    def assert_all_agree(self, one, other):
        # By the difference of the values, and by where the rows first differ.
        self.assert_order(one, other, sign(less(total(one), total(other))))
        self.assert_order(one, other, (one > other) - (one < other))

    def test_drawn_ones(self):
        for one, other in PAIRS:
            with self.subTest(one=one, other=other):
                self.assert_all_agree(one, other)

    def test_rows_that_begin_alike(self):
        draw = random.Random("alike")
        for row, another in PAIRS:
            shared = row[:draw.randint(0, len(row))]
            other = shared + [place for place in another if not shared or place <= shared[-1] - 2]
            with self.subTest(row=row, other=other):
                self.assert_all_agree(row, other)
                self.assert_all_agree(row, shared)

    def test_a_row_and_itself(self):
        for row in ROWS:
            with self.subTest(row=row):
                self.assert_order(row, list(row), 0)
                self.assert_order(row, row, 0)

    def test_small_rows_each_with_each(self):
        some = small_rows(list(range(2, -4, -1)))
        for one in some:
            for other in some:
                with self.subTest(one=one, other=other):
                    self.assert_all_agree(one, other)


class Cleaned(unittest.TestCase):

    def assert_cleaned(self, places):
        told = cleaned(places)
        assert_places(self, told)
        self.assertTrue(apart(told))
        self.assertEqual(total(told), total(places))

    def test_small_ones(self):
        self.assertEqual(cleaned([]), [])
        self.assertEqual(cleaned([7]), [7])
        self.assertEqual(cleaned([0, 0]), [1, -2])
        self.assertEqual(cleaned([0, 1]), [2])
        self.assertEqual(cleaned([1, 0]), [2])
        self.assertEqual(cleaned([-1, -2, 0]), [1, -2])
        self.assertEqual(cleaned([0, 0, 0]), [2, -2])
        self.assertEqual(cleaned([-3, 5]), [5, -3])

    def test_places_beyond_the_edges_may_be_told(self):
        self.assertEqual(cleaned([80, 79]), [81])
        self.assertEqual(cleaned([80, 80]), [81, 78])
        self.assertEqual(cleaned([-80, -80]), [-79, -82])
        self.assert_cleaned([80] * 60)
        self.assert_cleaned([-80] * 60)
        self.assert_cleaned([80, -80] * 30)
        self.assertGreater(cleaned([80] * 60)[0], 80)
        self.assertLess(cleaned([-80] * 60)[-1], -80)

    def test_drawn_ones(self):
        for places in place_lists("places", 400):
            with self.subTest(places=places):
                self.assert_cleaned(places)

    def test_the_order_of_the_places_is_nothing_to_it(self):
        for places in place_lists("shuffled", 60):
            with self.subTest(places=places):
                told = cleaned(places)
                self.assertEqual(cleaned(places[::-1]), told)
                self.assertEqual(cleaned(sorted(places)), told)

    def test_a_row_stays_as_it_is(self):
        for row in ROWS:
            with self.subTest(row=row):
                self.assertEqual(cleaned(row), row)

    def test_nothing_is_refused_for_its_size(self):
        for places in ([81], [-81], [100, 100, -100], [90] * 70, [-90] * 70, [5] * 100):
            with self.subTest(places=places):
                self.assert_cleaned(places)


class SumsAndProducts(unittest.TestCase):

    def test_small_ones(self):
        self.assertEqual(added([], []), [])
        self.assertEqual(added([0], []), [0])
        self.assertEqual(added([], [0]), [0])
        self.assertEqual(added([0], [0]), [1, -2])
        self.assertEqual(added([0], [1]), [2])
        self.assertEqual(multiplied([], [5]), [])
        self.assertEqual(multiplied([5], []), [])
        self.assertEqual(multiplied([0], [5, 2]), [5, 2])
        self.assertEqual(multiplied([3], [-4]), [-1])
        self.assertEqual(multiplied([1, -2], [2, -2]), row_of((6, 0)))

    def test_places_beyond_the_edges_may_be_told(self):
        self.assertEqual(added([80], [80]), [81, 78])
        self.assertEqual(added([80], [79]), [81])
        self.assertEqual(added([-80], [-80]), [-79, -82])
        self.assertEqual(multiplied([80], [80]), [160])
        self.assertEqual(multiplied([-80], [-80]), [-160])
        self.assertEqual(multiplied([80], [-80]), [0])
        full = list(range(80, -81, -2))
        for told, wanted in (
            (added(full, full), total(full + full)),
            (multiplied(full, full), times(total(full), total(full))),
        ):
            with self.subTest(wanted=wanted):
                self.assertTrue(apart(told))
                self.assertEqual(total(told), wanted)

    def test_drawn_ones(self):
        for one, other in PAIRS:
            with self.subTest(one=one, other=other):
                told = added(one, other)
                assert_places(self, told)
                self.assertTrue(apart(told))
                self.assertEqual(total(told), total(one + other))
                told = multiplied(one, other)
                assert_places(self, told)
                self.assertTrue(apart(told))
                self.assertEqual(total(told), product(total(one), total(other)))

    def test_a_row_with_itself(self):
        for row in ROWS[:60]:
            with self.subTest(row=row):
                self.assertEqual(total(added(row, row)), total(row + row))
                self.assertEqual(total(multiplied(row, row)), product(total(row), total(row)))


class Refusals(unittest.TestCase):

    def test_the_first_and_the_second_row(self):
        for call in (added, multiplied, order):
            for places in broken_rows():
                with self.subTest(call=call.__name__, length=len(places)):
                    assert_refused(self, NoRow, call, places, [2, -2])
                    assert_refused(self, NoRow, call, [2, -2], places)
                    assert_refused(self, NoRow, call, places, [])
                    assert_refused(self, NoRow, call, [], places)
                    assert_refused(self, NoRow, call, places, [1, 1])
                    assert_refused(self, NoRow, call, places, places)

    def test_a_sum_beyond_the_edges_is_no_row_to_hand_in(self):
        beyond = added([80], [80])
        assert_refused(self, NoRow, value, beyond)
        assert_refused(self, NoRow, added, [0], beyond)
        assert_refused(self, NoRow, multiplied, beyond, [0])
        assert_refused(self, NoRow, order, beyond, beyond)


if __name__ == "__main__":
    unittest.main()
