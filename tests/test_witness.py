"""Networks that fail with one plain row alone, and rows of different numbers that fail."""

import unittest

from neededrows.needed import does, needed
from neededrows.network import Network
from neededrows.rows import plain_rows
from neededrows.tasks import right
from neededrows.witness import exact, witness
from tests.samples import (
    SORTING_FOUR,
    all_tasks,
    made_standard,
    scattered,
    sorting,
    unsorted_plain_rows,
    without,
)


def in_order(row):
    return list(row) == sorted(row)


class Witnesses(unittest.TestCase):

    def assert_witness(self, row):
        n, z = len(row), row.count(0)
        network = witness(row)
        self.assertIs(type(network), Network)
        self.assertEqual(network.wires, n)
        self.assertIs(network.is_standard, True)
        self.assertLessEqual(len(network.comparers), 100)
        for other in plain_rows(n):
            if other == row:
                told = (0,) * (z - 1) + (1, 0) + (1,) * (n - z - 1)
                self.assertEqual(network.run(other), told, row)
            else:
                self.assertTrue(in_order(network.run(other)), (row, other))

    def test_two_numbers(self):
        self.assert_witness((1, 0))
        self.assertEqual(witness((1, 0)), Network(2, []))

    def test_three_numbers(self):
        for row in ((0, 1, 0), (1, 0, 0), (1, 0, 1), (1, 1, 0)):
            self.assert_witness(row)

    def test_each_row_of_two_to_eight_numbers(self):
        for wires in range(2, 9):
            for row in unsorted_plain_rows(wires):
                self.assert_witness(row)

    def test_one_nought_and_one_one(self):
        self.assert_witness((1, 1, 1, 1, 1, 1, 1, 0))
        self.assert_witness((1, 0, 0, 0, 0, 0, 0, 0))
        self.assert_witness((0, 0, 0, 0, 0, 0, 1, 0))
        self.assert_witness((1, 0, 1, 1, 1, 1, 1, 1))

    def test_somewhat_beyond_the_bounds(self):
        self.assert_witness((0, 1, 1, 0, 1, 0, 0, 1, 0))
        self.assert_witness((1, 1, 1, 1, 1, 0, 0, 0, 0, 0))

    def test_it_fails_each_task_that_needs_the_row_with_this_row_alone(self):
        for wires in range(2, 6):
            for row in unsorted_plain_rows(wires):
                network = witness(row)
                for task in all_tasks(wires):
                    rows = needed(wires, task)
                    wrong = [other for other in rows if not right(task, other, network.run(other))]
                    self.assertEqual(wrong, [row] if row in rows else [], (task, row))
                    self.assertEqual(does(network, task), (False, row) if wrong else (True, None))

    def test_called_again_it_gives_an_equal_network(self):
        for wires in range(2, 7):
            rows = unsorted_plain_rows(wires)
            first = [witness(row) for row in rows]
            again = [witness(tuple(list(row))) for row in reversed(rows)]
            self.assertEqual(first, again[::-1])


class Exact(unittest.TestCase):

    def assert_exact(self, network, row):
        found = exact(network, row)
        if in_order(network.run(row)):
            self.assertIsNone(found)
            return
        self.assertIs(type(found), tuple)
        self.assertEqual(sorted(found), list(range(network.wires)))
        for number in found:
            self.assertIs(type(number), int)
        self.assertFalse(in_order(network.run(found)), (network.comparers, row, found))

    def test_two_wires(self):
        bare = Network(2, [])
        self.assertEqual(exact(bare, (1, 0)), (1, 0))
        self.assertIsNone(exact(Network(2, [(0, 1)]), (1, 0)))

    def test_sorted_rows(self):
        for wires in range(1, 13):
            for pairs in ([], sorting(wires), sorting(wires)[1:]):
                network = Network(wires, pairs)
                for z in range(wires + 1):
                    self.assertIsNone(exact(network, (0,) * z + (1,) * (wires - z)))

    def test_one_wire(self):
        self.assertIsNone(exact(Network(1, []), (0,)))
        self.assertIsNone(exact(Network(1, []), (1,)))

    def test_unsorted_rows_with_a_sorted_result(self):
        for row in plain_rows(4):
            self.assertIsNone(exact(Network(4, SORTING_FOUR), row))
        self.assertIsNone(exact(Network(3, [(0, 1)]), (1, 0, 1)))

    def test_no_comparers(self):
        for wires in range(1, 9):
            for row in plain_rows(wires):
                self.assert_exact(Network(wires, []), row)

    def test_one_comparer_left_out(self):
        for wires in range(2, 7):
            pairs = sorting(wires)
            for at in range(len(pairs)):
                for row in plain_rows(wires):
                    self.assert_exact(Network(wires, without(pairs, at)), row)

    def test_networks_that_fail_with_one_plain_row_alone(self):
        # Here no other row of noughts and ones helps to find the row.
        for wires in range(2, 9):
            for row in unsorted_plain_rows(wires):
                network = witness(row)
                self.assertIsNotNone(exact(network, row))
                self.assert_exact(network, row)

    def test_networks_without_a_plain_order(self):
        for start in range(30):
            network = Network(6, made_standard(scattered(6, start, start)))
            for row in plain_rows(6):
                self.assert_exact(network, row)

    def test_twelve_wires_and_400_comparers(self):
        aside = [(i + 1, j + 1) for i, j in made_standard(scattered(11, 400))]
        network = Network(12, aside)
        failing = [row for row in plain_rows(12)[::7] if not in_order(network.run(row))]
        self.assertGreater(len(failing), 100)
        for row in failing:
            self.assert_exact(network, row)
        few = Network(12, made_standard(scattered(12, 20)))
        for row in plain_rows(12)[::5]:
            self.assert_exact(few, row)

    def test_called_again_it_gives_the_same_and_changes_nothing(self):
        network = Network(4, SORTING_FOUR[:4])
        for row in plain_rows(4):
            self.assertEqual(exact(network, row), exact(network, row))
        self.assertEqual((network.wires, network.comparers), (4, tuple(SORTING_FOUR[:4])))


if __name__ == "__main__":
    unittest.main()
