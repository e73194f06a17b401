"""Adjacent networks: whether they sort, and those that miss one exchange."""

import unittest
from itertools import permutations, product

from neededrows.adjacent import missing, sorts_adjacent
from neededrows.network import Network
from tests.samples import sorting, without


def neighbours(wires):
    return [(at, at + 1) for at in range(wires - 1)]


def sorts_all_plain_rows(network):
    return all(list(network.run(row)) == sorted(row) for row in product((0, 1), repeat=network.wires))


def some_adjacent(wires, many, start):
    """A scattered adjacent network, the same at each call."""
    number, found = start, []
    for _ in range(many):
        number = (number * 1103515245 + 12345) % 2 ** 31
        at = (number >> 12) % (wires - 1)
        found.append((at, at + 1))
    return Network(wires, found)


class SortsAdjacent(unittest.TestCase):

    def assert_told(self, network, told):
        self.assertIs(sorts_adjacent(network), told, network.comparers)

    def test_networks_that_sort(self):
        self.assert_told(Network(2, [(0, 1)]), True)
        self.assert_told(Network(3, [(0, 1), (1, 2), (0, 1)]), True)
        self.assert_told(Network(3, [(1, 2), (0, 1), (1, 2)]), True)
        for wires in range(1, 13):
            self.assert_told(Network(wires, sorting(wires)), True)

    def test_networks_that_do_not_sort(self):
        self.assert_told(Network(3, [(0, 1), (1, 2)]), False)
        self.assert_told(Network(3, [(0, 1), (0, 1), (1, 2), (1, 2)]), False)
        self.assert_told(Network(4, [(0, 1), (2, 3), (1, 2), (0, 1), (2, 3)]), False)

    def test_no_comparers(self):
        self.assert_told(Network(1, []), True)
        for wires in range(2, 13):
            self.assert_told(Network(wires, []), False)

    def test_against_all_plain_rows(self):
        for wires, most in ((2, 3), (3, 6), (4, 6)):
            for many in range(most + 1):
                for chosen in product(neighbours(wires), repeat=many):
                    network = Network(wires, list(chosen))
                    self.assert_told(network, sorts_all_plain_rows(network))

    def test_against_all_plain_rows_with_more_wires(self):
        told = []
        for wires in (5, 6, 7):
            for start in range(12):
                network = some_adjacent(wires, 5 * wires + 2 * start, start)
                told.append(sorts_all_plain_rows(network))
                self.assert_told(network, told[-1])
        self.assertEqual(set(told), {True, False})

    def test_each_comparer_of_a_sorting_one_is_needed(self):
        for wires in range(2, 13):
            pairs = sorting(wires)
            for at in range(len(pairs)):
                self.assert_told(Network(wires, without(pairs, at)), False)

    def test_twelve_wires_against_all_plain_rows(self):
        pairs = sorting(12)
        for network in (Network(12, pairs), Network(12, pairs[:-1]), Network(12, neighbours(12) * 36)):
            self.assert_told(network, sorts_all_plain_rows(network))

    def test_the_argument_stays(self):
        network = Network(3, [(0, 1), (1, 2), (0, 1)])
        self.assertEqual([sorts_adjacent(network), sorts_adjacent(network)], [True, True])
        self.assertEqual((network.wires, network.comparers), (3, ((0, 1), (1, 2), (0, 1))))


class Missing(unittest.TestCase):

    def assert_all_or_exchanged(self, wires, a):
        network = missing(wires, a)
        ordered = tuple(range(wires))
        exchanged = ordered[:a - 1] + (a, a - 1) + ordered[a + 1:]
        for row in permutations(range(wires)):
            self.assertIn(network.run(row), (ordered, exchanged), (wires, a, row))
        self.assertEqual(network.run(ordered[::-1]), exchanged)

    def test_two_wires(self):
        self.assertEqual(missing(2, 1), Network(2, []))

    def test_three_wires(self):
        self.assertEqual(missing(3, 1).run((2, 1, 0)), (1, 0, 2))
        self.assertEqual(missing(3, 2).run((2, 1, 0)), (0, 2, 1))
        self.assertEqual(missing(3, 1).run((2, 0, 1)), (0, 1, 2))

    def test_each_is_adjacent_with_its_wires_and_few_comparers(self):
        for wires in range(2, 13):
            for a in range(1, wires):
                network = missing(wires, a)
                self.assertIs(type(network), Network)
                self.assertEqual(network.wires, wires)
                self.assertLessEqual(len(network.comparers), 100)
                for pair in network.comparers:
                    self.assertIn(pair, neighbours(wires))

    def test_every_row_is_sorted_but_for_the_one_exchange(self):
        for wires in range(2, 7):
            for a in range(1, wires):
                self.assert_all_or_exchanged(wires, a)

    def test_the_falling_row_with_more_wires(self):
        for wires in range(7, 13):
            for a in range(1, wires):
                result = list(range(wires))
                result[a - 1], result[a] = a, a - 1
                network = missing(wires, a)
                self.assertEqual(network.run(tuple(range(wires - 1, -1, -1))), tuple(result))
                self.assertIs(sorts_adjacent(network), False)

    def test_with_more_wires_some_rows(self):
        for wires in (9, 12):
            for a in (1, wires // 2, wires - 1):
                network = missing(wires, a)
                ordered = tuple(range(wires))
                exchanged = ordered[:a - 1] + (a, a - 1) + ordered[a + 1:]
                for factor in (5, 7, 11):
                    for shift in range(wires):
                        row = sorted(ordered, key=lambda k: (k * factor + shift) % 13)
                        self.assertIn(network.run(row), (ordered, exchanged))

    def test_called_again_it_gives_the_same(self):
        for a in range(1, 7):
            self.assertEqual(missing(7, a), missing(7, a))

    def test_somewhat_beyond_the_limits(self):
        for wires, a in ((13, 6), (5, 5), (5, 0), (5, 7), (1, 1)):
            self.assertIs(type(missing(wires, a)), Network)


if __name__ == "__main__":
    unittest.main()
