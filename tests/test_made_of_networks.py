"""Networks that are made of other ones: mirrored, renamed, joined, widened."""

import unittest
from itertools import permutations

from neededrows.network import Network, joined, mirrored, renamed, widened
from tests.samples import SORTING_FOUR, rows_of, some_networks


def fields(network):
    return (network.wires, network.comparers)


def turned(row):
    return tuple(-number for number in reversed(row))


class Mirrored(unittest.TestCase):

    def test_the_comparers_in_order(self):
        self.assertEqual(
            fields(mirrored(Network(5, [(0, 1), (3, 1), (2, 4), (0, 1)]))),
            (5, ((3, 4), (3, 1), (0, 2), (3, 4))),
        )

    def test_no_comparers_and_one_wire(self):
        self.assertEqual(fields(mirrored(Network(1, []))), (1, ()))
        self.assertEqual(fields(mirrored(Network(7, []))), (7, ()))

    def test_twelve_wires(self):
        self.assertEqual(fields(mirrored(Network(12, [(0, 11), (11, 5)]))), (12, ((0, 11), (6, 0))))

    def test_mirrored_twice_is_the_network(self):
        for network in some_networks():
            self.assertEqual(mirrored(mirrored(network)), network)

    def test_a_standard_network_stays_standard(self):
        for network in some_networks():
            self.assertIs(mirrored(network).is_standard, network.is_standard)

    def test_reversed_negatives_lead_to_reversed_negatives(self):
        for network in some_networks():
            mirror = mirrored(network)
            for row in rows_of(network):
                self.assertEqual(mirror.run(turned(row)), turned(network.run(row)))

    def test_the_argument_stays(self):
        network = Network(4, SORTING_FOUR)
        self.assertEqual(mirrored(network), mirrored(network))
        self.assertEqual(fields(network), (4, tuple(SORTING_FOUR)))


class Renamed(unittest.TestCase):

    def test_the_comparers_in_order(self):
        self.assertEqual(
            fields(renamed(Network(4, [(0, 1), (2, 3), (3, 0), (0, 1)]), (2, 0, 3, 1))),
            (4, ((2, 0), (3, 1), (1, 2), (2, 0))),
        )

    def test_names_that_are_no_exchange(self):
        self.assertEqual(renamed(Network(3, [(0, 1), (1, 2)]), (1, 2, 0)).comparers, ((1, 2), (2, 0)))

    def test_own_names(self):
        for network in some_networks():
            self.assertEqual(renamed(network, tuple(range(network.wires))), network)

    def test_no_comparers_and_one_wire(self):
        self.assertEqual(fields(renamed(Network(1, []), (0,))), (1, ()))
        self.assertEqual(fields(renamed(Network(3, []), (2, 1, 0))), (3, ()))

    def test_renamed_rows_lead_to_renamed_results(self):
        network = Network(4, [(3, 0), (1, 2), (0, 1), (2, 3)])
        for names in permutations(range(4)):
            other = renamed(network, names)
            for row in rows_of(network):
                result = other.run(tuple(row[names.index(w)] for w in range(4)))
                self.assertEqual(tuple(result[name] for name in names), network.run(row))

    def test_the_argument_stays(self):
        network = Network(4, SORTING_FOUR)
        self.assertEqual(renamed(network, (3, 1, 0, 2)), renamed(network, (3, 1, 0, 2)))
        self.assertEqual(fields(network), (4, tuple(SORTING_FOUR)))


class Joined(unittest.TestCase):

    def test_the_first_one_stands_first(self):
        first = Network(3, [(0, 1), (2, 1)])
        second = Network(3, [(1, 0), (0, 2)])
        self.assertEqual(fields(joined(first, second)), (3, ((0, 1), (2, 1), (1, 0), (0, 2))))
        self.assertEqual(fields(joined(second, first)), (3, ((1, 0), (0, 2), (0, 1), (2, 1))))

    def test_with_itself(self):
        network = Network(2, [(1, 0)])
        self.assertEqual(fields(joined(network, network)), (2, ((1, 0), (1, 0))))

    def test_without_comparers(self):
        bare = Network(4, [])
        network = Network(4, SORTING_FOUR)
        self.assertEqual(joined(bare, network), network)
        self.assertEqual(joined(network, bare), network)
        self.assertEqual(fields(joined(bare, bare)), (4, ()))
        self.assertEqual(fields(joined(Network(1, []), Network(1, []))), (1, ()))

    def test_a_row_goes_through_both(self):
        chosen = [network for network in some_networks() if network.wires == 3][::5]
        for first in chosen:
            for second in chosen:
                both = joined(first, second)
                for row in rows_of(both):
                    self.assertEqual(both.run(row), second.run(first.run(row)))

    def test_somewhat_beyond_the_bounds(self):
        many = Network(2, [(0, 1)] * 300)
        self.assertEqual(len(joined(many, many).comparers), 600)

    def test_the_arguments_stay(self):
        first = Network(3, [(0, 1)])
        second = Network(3, [(2, 1)])
        self.assertEqual(joined(first, second), joined(first, second))
        self.assertEqual(fields(first), (3, ((0, 1),)))
        self.assertEqual(fields(second), (3, ((2, 1),)))


class Widened(unittest.TestCase):

    def test_the_comparers_in_order(self):
        network = Network(3, [(0, 1), (2, 1), (0, 1)])
        self.assertEqual(fields(widened(network, 7, 2)), (7, ((2, 3), (4, 3), (2, 3))))

    def test_no_shift(self):
        network = Network(3, [(0, 1), (2, 1)])
        self.assertEqual(fields(widened(network, 5, 0)), (5, ((0, 1), (2, 1))))
        self.assertEqual(widened(network, 3, 0), network)

    def test_up_to_the_last_wire(self):
        network = Network(3, [(0, 1), (2, 1)])
        self.assertEqual(fields(widened(network, 12, 9)), (12, ((9, 10), (11, 10))))

    def test_no_comparers_and_one_wire(self):
        self.assertEqual(fields(widened(Network(1, []), 1, 0)), (1, ()))
        self.assertEqual(fields(widened(Network(1, []), 4, 3)), (4, ()))

    def test_the_wires_of_the_network_do_what_it_does_and_others_stay(self):
        for network in some_networks()[::4]:
            for shift in range(3):
                wider = widened(network, network.wires + shift + 1, shift)
                for row in rows_of(network):
                    front, back = tuple(range(9, 9 - shift, -1)), (-5,)
                    self.assertEqual(wider.run(front + row + back), front + network.run(row) + back)

    def test_the_argument_stays(self):
        network = Network(4, SORTING_FOUR)
        self.assertEqual(widened(network, 6, 1), widened(network, 6, 1))
        self.assertEqual(fields(network), (4, tuple(SORTING_FOUR)))


if __name__ == "__main__":
    unittest.main()
