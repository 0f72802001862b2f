"""Promises 1 and 15 over the whole program: nothing is changed or kept, and each refusal has its class."""

import unittest

from drawn import BIG, assert_refused, place_lists, rows
from goldplaces.errors import NoNote, NoNumber, NoRow
from goldplaces.measures import common, divided, measures, unit
from goldplaces.notes import read, shown
from goldplaces.rows import added, cleaned, is_row, multiplied, order, row_of, value

ROWS = rows("whole", 60) + [[], [80], [-80, ], [2, -2]]

PAIRS = list(zip(ROWS, reversed(ROWS)))

ONE_LIST = (is_row, value, cleaned, shown)

TWO_LISTS = (added, multiplied, order)


def spoil(places):
    """Changes a list in all the ways that a list can be."""
    places.reverse()
    places.append(81)
    places.insert(0, 81)
    places[0] = -3


class NothingIsChanged(unittest.TestCase):

    def test_one_list(self):
        for call in ONE_LIST:
            for places in ROWS:
                with self.subTest(call=call.__name__, places=places):
                    handed = list(places)
                    call(handed)
                    self.assertEqual(handed, places)

    def test_two_lists(self):
        for call in TWO_LISTS:
            for one, other in PAIRS:
                with self.subTest(call=call.__name__, one=one, other=other):
                    handed_one, handed_other = list(one), list(other)
                    call(handed_one, handed_other)
                    self.assertEqual((handed_one, handed_other), (one, other))
                    call(handed_one, handed_one)
                    self.assertEqual(handed_one, one)

    def test_lists_in_any_order(self):
        for places in place_lists("whole", 60):
            with self.subTest(places=places):
                handed = list(places)
                is_row(handed)
                cleaned(handed)
                self.assertEqual(handed, places)

    def test_where_it_is_refused(self):
        for places in ([3, 3], [1, 0], [81], [-5, 5, 2]):
            for call in (value, shown):
                handed = list(places)
                assert_refused(self, NoRow, call, handed)
                self.assertEqual(handed, places)
            for call in TWO_LISTS:
                handed, fine = list(places), [2, -2]
                assert_refused(self, NoRow, call, handed, fine)
                assert_refused(self, NoRow, call, fine, handed)
                self.assertEqual((handed, fine), (places, [2, -2]))


class NothingIsKept(unittest.TestCase):

    def assert_told_anew(self, call, *handed):
        """That each list told is a new one, and that a change of it changes no later answer."""
        first = call(*handed)
        copy = list(first)
        self.assertTrue(all(first is not given for given in handed))
        spoil(first)
        again = call(*handed)
        self.assertEqual(again, copy)
        self.assertIsNot(again, first)

    def test_lists_that_are_told(self):
        for row in ROWS:
            with self.subTest(row=row):
                self.assert_told_anew(row_of, value(row))
                self.assert_told_anew(read, shown(row))
                self.assert_told_anew(cleaned, list(row))
        for one, other in PAIRS:
            with self.subTest(one=one, other=other):
                self.assert_told_anew(added, list(one), list(other))
                self.assert_told_anew(added, list(one), [])
                self.assert_told_anew(added, [], list(one))
                self.assert_told_anew(multiplied, list(one), list(other))
                self.assert_told_anew(multiplied, list(one), [0])
                self.assert_told_anew(multiplied, [0], list(one))

    def test_lists_that_are_handed_in(self):
        for call in ONE_LIST:
            for row in ROWS:
                with self.subTest(call=call.__name__, row=row):
                    handed = list(row)
                    first = call(handed)
                    copy = list(first) if isinstance(first, list) else first
                    spoil(handed)
                    self.assertEqual(first, copy)
                    self.assertEqual(call(list(row)), copy)
        for call in TWO_LISTS:
            for one, other in PAIRS:
                with self.subTest(call=call.__name__, one=one, other=other):
                    handed_one, handed_other = list(one), list(other)
                    first = call(handed_one, handed_other)
                    copy = list(first) if isinstance(first, list) else first
                    spoil(handed_one)
                    spoil(handed_other)
                    self.assertEqual(first, copy)
                    self.assertEqual(call(list(one), list(other)), copy)

    def test_a_list_is_looked_at_as_it_is_now(self):
        handed = [2, -2]
        self.assertEqual(value(handed), (3, 0))
        self.assertEqual(shown(handed), "100.01")
        handed.append(-4)
        self.assertEqual(value(handed), (8, -3))
        self.assertEqual(shown(handed), "100.0101")
        handed.append(-4)
        self.assertIs(is_row(handed), False)
        assert_refused(self, NoRow, value, handed)
        assert_refused(self, NoRow, shown, handed)

    def test_the_same_is_told_again(self):
        one, other = (BIG, -7), (12, BIG - 1)
        calls = [
            lambda: divided(one, other), lambda: measures(one, other), lambda: common(one, other),
            lambda: unit(one), lambda: unit((5, -3)), lambda: row_of((10 ** 12, 1)), lambda: read("100.01"),
        ]
        first = [call() for call in calls]
        again = [call() for call in reversed(calls)]
        self.assertEqual(first, again[::-1])


class EachRefusal(unittest.TestCase):

    def test_no_number(self):
        assert_refused(self, NoNumber, row_of, (-1, 0))
        assert_refused(self, NoNumber, row_of, (0, -1))
        assert_refused(self, NoNumber, row_of, (1, -1))
        assert_refused(self, NoNumber, divided, (1, 0), (0, 0))
        assert_refused(self, NoNumber, divided, (0, 0), (0, 0))

    def test_no_row(self):
        for call in (value, shown):
            assert_refused(self, NoRow, call, [1, 0])
        for call in TWO_LISTS:
            assert_refused(self, NoRow, call, [1, 0], [2])
            assert_refused(self, NoRow, call, [2], [1, 0])
            assert_refused(self, NoRow, call, [81], [1, 0])
            assert_refused(self, NoRow, call, [1, 0], [81])

    def test_no_note(self):
        for text in ("", "11", "1.1", "01", "0.10", ".1", "1.", "2", "1" + "0" * 81):
            assert_refused(self, NoNote, read, text)

    def test_what_is_not_refused(self):
        self.assertIs(is_row([3, 3]), False)
        self.assertEqual(cleaned([0, 1]), [2])
        self.assertIs(measures((0, 0), (1, 0)), False)
        self.assertEqual(common((0, 0), (0, 0))[0], (0, 0))
        self.assertIs(unit((0, 0)), None)
        self.assertEqual(row_of((0, 0)), [])


if __name__ == "__main__":
    unittest.main()
