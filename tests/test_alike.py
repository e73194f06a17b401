"""Networks with the same results, and standard networks that are like others."""

import unittest
from itertools import product

from neededrows.alike import parted, straight
from neededrows.network import Network
from neededrows.rows import plain_rows
from tests.samples import (
    HUGE,
    SORTING_FOUR,
    all_networks,
    made_standard,
    rows_of,
    scattered,
    some_networks,
    sorting,
    without,
)


class Parted(unittest.TestCase):

    def assert_same(self, wires, pairs, others):
        self.assertIsNone(parted(Network(wires, pairs), Network(wires, others)))
        self.assertIsNone(parted(Network(wires, others), Network(wires, pairs)))

    def assert_parted(self, wires, pairs, others, row):
        for found in (
            parted(Network(wires, pairs), Network(wires, others)),
            parted(Network(wires, others), Network(wires, pairs)),
        ):
            self.assertEqual(found, row)
            self.assertIs(type(found), tuple)

    def test_equal_networks(self):
        for network in some_networks():
            self.assertIsNone(parted(network, network))
            self.assertIsNone(parted(network, Network(network.wires, list(network.comparers))))

    def test_unlike_comparers_with_the_same_results(self):
        self.assert_same(4, SORTING_FOUR, sorting(4))
        self.assert_same(8, sorting(8), [(7 - j, 7 - i) for i, j in sorting(8)])
        self.assert_same(3, [(0, 1), (0, 1)], [(0, 1)])
        self.assert_same(4, [(0, 1), (2, 3)], [(2, 3), (0, 1)])
        self.assert_same(5, sorting(5), sorting(5) + [(0, 4), (1, 3)])

    def test_networks_that_are_not_standard(self):
        self.assert_same(2, [(0, 1), (1, 0)], [(1, 0)])
        self.assert_same(2, [(1, 0), (0, 1)], [(0, 1), (0, 1)])
        self.assert_same(3, [(2, 1), (1, 0), (2, 1)], [(1, 0), (2, 1), (1, 0)])
        self.assert_parted(2, [(0, 1)], [(1, 0)], (0, 1))
        self.assert_parted(3, [(2, 0)], [(2, 1)], (0, 0, 1))

    def test_the_first_row_with_unlike_results(self):
        self.assert_parted(2, [], [(0, 1)], (1, 0))
        self.assert_parted(2, [], [(1, 0)], (0, 1))
        self.assert_parted(4, SORTING_FOUR, SORTING_FOUR[:4], (0, 1, 0, 1))
        self.assert_parted(4, SORTING_FOUR, without(SORTING_FOUR, 0), (1, 0, 0, 0))
        self.assert_parted(3, [(0, 1), (1, 2)], [(1, 2), (0, 1)], (1, 0, 0))
        self.assert_parted(8, sorting(8), sorting(8)[1:], (1, 0, 0, 0, 0, 0, 0, 0))

    def test_results_that_are_not_sorted_may_be_unlike(self):
        self.assert_parted(3, [(0, 1)], [(1, 2)], (0, 1, 0))
        self.assert_parted(4, [(0, 1), (1, 3)], [(0, 1), (0, 3)], (0, 1, 0, 0))

    def test_no_comparers_and_one_wire(self):
        self.assert_same(1, [], [])
        self.assert_same(8, [], [])

    def test_as_the_document_tells(self):
        networks = all_networks(3, 2)
        rows = list(product(range(3), repeat=3))
        results = [[network.run(row) for row in rows] for network in networks]
        plain = [[network.run(row) for row in product((0, 1), repeat=3)] for network in networks]
        for first, one in enumerate(networks):
            for second, other in enumerate(networks):
                found = parted(one, other)
                self.assertIs(found is None, results[first] == results[second])
                if found is not None:
                    unlike = [a != b for a, b in zip(plain[first], plain[second])]
                    self.assertEqual(found, plain_rows(3)[unlike.index(True)])

    def test_the_bounds(self):
        pairs = scattered(8, 118)
        # The same two wires the other way first make no difference.
        self.assert_same(8, pairs + [(2, 5)], pairs + [(5, 2), (2, 5)])
        one, other = Network(8, pairs + [(2, 5)]), Network(8, pairs + [(5, 2)])
        unlike = [row for row in product((0, 1), repeat=8) if one.run(row) != other.run(row)]
        self.assert_parted(8, pairs + [(2, 5)], pairs + [(5, 2)], unlike[0])

    def test_called_again_it_gives_the_same_and_changes_nothing(self):
        one, other = Network(4, SORTING_FOUR), Network(4, SORTING_FOUR[:4])
        self.assertEqual(parted(one, other), parted(one, other))
        self.assertEqual(one.comparers, tuple(SORTING_FOUR))
        self.assertEqual(other.comparers, tuple(SORTING_FOUR[:4]))


class Straight(unittest.TestCase):

    def assert_straight(self, network, rows):
        found = straight(network)
        self.assertIs(type(found), tuple)
        standard, names = found
        self.assertIs(type(standard), Network)
        self.assertIs(standard.is_standard, True)
        self.assertEqual(standard.wires, network.wires)
        self.assertEqual(len(standard.comparers), len(network.comparers))
        self.assertIs(type(names), tuple)
        self.assertEqual(sorted(names), list(range(network.wires)))
        for name in names:
            self.assertIs(type(name), int)
        for row in rows:
            result = standard.run(row)
            told = tuple(result[name] for name in names)
            self.assertEqual(network.run(row), told, (network.comparers, row))

    def test_one_comparer_the_other_way(self):
        self.assertEqual(straight(Network(2, [(1, 0)])), (Network(2, [(0, 1)]), (1, 0)))
        self.assertEqual(straight(Network(2, [(1, 0), (0, 1)])), (Network(2, [(0, 1), (0, 1)]), (0, 1)))

    def test_later_comparers_follow_the_names(self):
        self.assert_straight(Network(3, [(1, 0), (1, 2)]), rows_of(Network(3, [])))
        self.assert_straight(Network(3, [(2, 0), (0, 1), (1, 2)]), rows_of(Network(3, [])))

    def test_names_that_are_no_exchange(self):
        network = Network(3, [(1, 0), (2, 1)])
        self.assert_straight(network, rows_of(network))
        self.assertNotEqual(straight(network)[1], tuple(straight(network)[1].index(w) for w in range(3)))

    def test_small_networks(self):
        for network in some_networks() + all_networks(3, 3):
            self.assert_straight(network, rows_of(network))

    def test_a_standard_network(self):
        for wires in range(1, 13):
            for pairs in (sorting(wires), sorting(wires)[:3], []):
                network = Network(wires, pairs)
                self.assert_straight(network, [tuple(range(wires, 0, -1))])
                self.assertEqual(straight(network)[1], tuple(range(wires)))
        for start in range(10):
            network = Network(7, made_standard(scattered(7, 25, start)))
            self.assertEqual(straight(network)[1], tuple(range(7)))
            self.assertIsNone(parted(straight(network)[0], network))

    def test_a_network_that_sorts_every_row(self):
        for wires in range(2, 7):
            for start in range(12):
                network = Network(wires, scattered(wires, 3 * start, start) + [(1, 0)] + sorting(wires))
                self.assertIs(network.is_standard, False)
                self.assert_straight(network, product((0, 1), repeat=wires))
                self.assertEqual(straight(network)[1], tuple(range(wires)))

    def test_a_network_that_sorts_downwards(self):
        network = Network(4, [(j, i) for i, j in SORTING_FOUR])
        self.assert_straight(network, rows_of(network))
        self.assertEqual(straight(network)[1], (3, 2, 1, 0))

    def test_no_comparers_and_one_wire(self):
        for wires in (1, 2, 12):
            self.assertEqual(straight(Network(wires, [])), (Network(wires, []), tuple(range(wires))))

    def test_twelve_wires_and_400_comparers(self):
        rows = [tuple(range(12, 0, -1)), (0, HUGE, -HUGE, 3, -3, 3, 0, -1, HUGE, 2, 2, 9)]
        rows += list(product((0, 1), repeat=12))[::37]
        for many in (12, 100, 400):
            self.assert_straight(Network(12, scattered(12, many)), rows)

    def test_called_again_it_gives_the_same_and_changes_nothing(self):
        pairs = scattered(6, 20)
        network = Network(6, pairs)
        self.assertEqual(straight(network), straight(network))
        self.assertEqual((network.wires, network.comparers), (6, tuple(pairs)))


if __name__ == "__main__":
    unittest.main()
