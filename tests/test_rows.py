"""Sorted rows, plain rows and their noughts."""

import unittest
from itertools import product

from neededrows.rows import is_sorted, noughts, plain_rows
from tests.samples import HUGE


class Sorted(unittest.TestCase):

    def test_sorted_rows(self):
        for row in ((1, 2), (0, 5, 9), (-3, -2, 0, 7), (-HUGE, 0, HUGE)):
            self.assertIs(is_sorted(row), True)

    def test_equal_neighbours(self):
        for row in ((0, 0), (1, 1, 1), (0, 0, 1, 1), (-HUGE, -HUGE, HUGE, HUGE)):
            self.assertIs(is_sorted(row), True)

    def test_one_number(self):
        for number in (0, 1, -1, HUGE):
            self.assertIs(is_sorted((number,)), True)

    def test_rows_that_are_not_sorted(self):
        for row in ((1, 0), (0, -1), (2, 1, 3), (1, 3, 2), (0, 1, 1, 0), (HUGE + 1, HUGE), (-1, -2)):
            self.assertIs(is_sorted(row), False)

    def test_first_and_last_in_order_are_not_enough(self):
        self.assertIs(is_sorted((0, 2, 1, 3)), False)
        self.assertIs(is_sorted((1, 2, 0, 1)), False)

    def test_one_fault_at_any_place(self):
        for place in range(11):
            row = list(range(12))
            row[place], row[place + 1] = row[place + 1], row[place]
            self.assertIs(is_sorted(tuple(row)), False)

    def test_all_small_rows(self):
        for many in range(1, 6):
            for row in product((-1, 0, 1), repeat=many):
                self.assertIs(is_sorted(row), list(row) == sorted(row))


class PlainRows(unittest.TestCase):

    def test_small_numbers_of_wires(self):
        self.assertEqual(plain_rows(1), [(0,), (1,)])
        self.assertEqual(plain_rows(2), [(0, 0), (0, 1), (1, 0), (1, 1)])
        self.assertEqual(
            plain_rows(3),
            [(0, 0, 0), (0, 0, 1), (0, 1, 0), (0, 1, 1), (1, 0, 0), (1, 0, 1), (1, 1, 0), (1, 1, 1)],
        )

    def test_all_numbers_of_wires(self):
        for wires in range(1, 13):
            rows = plain_rows(wires)
            self.assertEqual(rows, list(product((0, 1), repeat=wires)))
            self.assertEqual(len(rows), 2 ** wires)
            self.assertEqual(rows, sorted(rows))

    def test_the_kinds_of_the_parts(self):
        rows = plain_rows(3)
        self.assertIs(type(rows), list)
        for row in rows:
            self.assertIs(type(row), tuple)
            for number in row:
                self.assertIs(type(number), int)

    def test_a_new_list_at_each_call(self):
        for wires in (1, 2, 5):
            expected = list(product((0, 1), repeat=wires))
            first = plain_rows(wires)
            first.reverse()
            first.append("more")
            self.assertEqual(plain_rows(wires), expected)
            plain_rows(wires).clear()
            self.assertEqual(plain_rows(wires), expected)

    def test_another_number_of_wires_between_two_calls(self):
        self.assertEqual([len(plain_rows(wires)) for wires in (4, 2, 4, 1)], [16, 4, 16, 2])


class Noughts(unittest.TestCase):

    def test_the_number_of_noughts(self):
        for row, many in (((0, 1, 0), 2), ((1, 1, 0), 1), ((1, 0, 0, 0), 3), ((0,) * 12, 12)):
            self.assertEqual(noughts(row), many)

    def test_none_and_one_number(self):
        self.assertEqual(noughts((1, 1, 1)), 0)
        self.assertEqual(noughts((1,)), 0)
        self.assertEqual(noughts((0,)), 1)

    def test_noughts_and_ones_make_the_row(self):
        for row in product((0, 1), repeat=6):
            self.assertEqual(noughts(row), len(row) - sum(row))

    def test_it_is_a_number(self):
        for row in ((0,), (1,), (0, 1)):
            self.assertIs(type(noughts(row)), int)


if __name__ == "__main__":
    unittest.main()
