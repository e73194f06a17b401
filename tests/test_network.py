"""Networks: what they are made of, their runs and their equality."""

import unittest
from itertools import product

from neededrows.errors import InvalidNetwork
from neededrows.network import Network
from tests.samples import HUGE, SORTING_FOUR, rows_of, some_networks


class FieldsOfNetworks(unittest.TestCase):

    def test_wires_and_comparers_are_as_given(self):
        network = Network(4, [(2, 0), (1, 3), (2, 0)])
        self.assertEqual(network.wires, 4)
        self.assertEqual(network.comparers, ((2, 0), (1, 3), (2, 0)))

    def test_comparers_are_a_tuple_of_tuples(self):
        for comparers in ([(0, 1), (1, 0)], ((0, 1), (1, 0)), [], ()):
            network = Network(2, comparers)
            self.assertIs(type(network.comparers), tuple)
            self.assertEqual(network.comparers, tuple(comparers))
            for pair in network.comparers:
                self.assertIs(type(pair), tuple)

    def test_wires_are_a_number(self):
        self.assertIs(type(Network(1, []).wires), int)

    def test_the_list_may_change_afterwards(self):
        comparers = [(0, 1), (1, 2)]
        network = Network(3, comparers)
        comparers.append((0, 2))
        comparers[0] = (2, 1)
        self.assertEqual(network.comparers, ((0, 1), (1, 2)))
        self.assertEqual(network.run((3, 2, 1)), (2, 1, 3))
        comparers.clear()
        self.assertEqual(network.comparers, ((0, 1), (1, 2)))

    def test_the_list_that_is_passed_stays(self):
        comparers = [(1, 0), (0, 1), (2, 1)]
        Network(3, comparers)
        self.assertEqual(comparers, [(1, 0), (0, 1), (2, 1)])

    def test_two_networks_from_one_list_are_apart(self):
        comparers = [(0, 1)]
        first = Network(2, comparers)
        comparers.append((1, 0))
        second = Network(2, comparers)
        self.assertEqual(first.comparers, ((0, 1),))
        self.assertEqual(second.comparers, ((0, 1), (1, 0)))


class ValidNetworks(unittest.TestCase):

    def test_each_pair_of_two_wires_is_taken(self):
        for wires in range(1, 13):
            pairs = [(i, j) for i in range(wires) for j in range(wires) if i != j]
            self.assertEqual(Network(wires, pairs).comparers, tuple(pairs))

    def test_the_same_comparer_again_and_again(self):
        self.assertEqual(len(Network(2, [(0, 1)] * 400).comparers), 400)

    def test_no_comparers(self):
        for wires in range(1, 13):
            self.assertEqual(Network(wires, []).comparers, ())

    def test_the_bounds_and_somewhat_beyond(self):
        self.assertEqual(len(Network(12, [(0, 11), (11, 0)] * 200).comparers), 400)
        self.assertEqual(len(Network(14, [(13, 0)] * 500).comparers), 500)


class InvalidNetworks(unittest.TestCase):

    def assert_invalid(self, wires, comparers):
        before = list(comparers)
        for given in (list(comparers), tuple(comparers)):
            with self.assertRaises(InvalidNetwork):
                Network(wires, given)
        given = list(comparers)
        with self.assertRaises(InvalidNetwork):
            Network(wires, given)
        self.assertEqual(given, before)

    def assert_invalid_anywhere(self, wires, pair):
        good = [(0, 1), (1, 2), (2, 0), (0, 2)]
        self.assert_invalid(wires, [pair])
        for place in range(len(good) + 1):
            self.assert_invalid(wires, good[:place] + [pair] + good[place:])

    def test_fewer_than_one_wire(self):
        for wires in (0, -1, -2, -12, -HUGE):
            self.assert_invalid(wires, [])
            self.assert_invalid(wires, [(0, 1)])

    def test_a_number_that_is_no_wire(self):
        for wires in (3, 4, 12):
            for wrong in (-1, -2, -wires, wires, wires + 1, 1000, HUGE, -HUGE):
                for wire in (0, 1, wires - 1):
                    self.assert_invalid_anywhere(wires, (wrong, wire))
                    self.assert_invalid_anywhere(wires, (wire, wrong))

    def test_two_numbers_that_are_no_wires(self):
        self.assert_invalid_anywhere(3, (-1, 3))
        self.assert_invalid_anywhere(3, (HUGE, -HUGE))
        self.assert_invalid_anywhere(3, (-2, -1))

    def test_both_numbers_equal(self):
        for wires in (3, 12):
            for number in range(wires):
                self.assert_invalid_anywhere(wires, (number, number))
        for number in (-1, 3, HUGE):
            self.assert_invalid_anywhere(3, (number, number))

    def test_one_wire_has_no_pair(self):
        for pair in ((0, 0), (0, 1), (1, 0), (0, -1), (-1, 0)):
            self.assert_invalid(1, [pair])


class Runs(unittest.TestCase):

    def test_the_smaller_number_goes_to_the_first_wire_named(self):
        self.assertEqual(Network(2, [(0, 1)]).run((5, 3)), (3, 5))
        self.assertEqual(Network(2, [(0, 1)]).run((3, 5)), (3, 5))
        self.assertEqual(Network(2, [(1, 0)]).run((5, 3)), (5, 3))
        self.assertEqual(Network(2, [(1, 0)]).run((3, 5)), (5, 3))

    def test_equal_numbers_stay(self):
        self.assertEqual(Network(3, [(0, 2), (1, 0)]).run((4, 4, 4)), (4, 4, 4))

    def test_comparers_work_in_order(self):
        self.assertEqual(Network(3, [(0, 1), (1, 2)]).run((3, 2, 1)), (2, 1, 3))
        self.assertEqual(Network(3, [(1, 2), (0, 1)]).run((3, 2, 1)), (1, 3, 2))

    def test_other_wires_stay(self):
        self.assertEqual(Network(5, [(3, 1)]).run((9, 2, 7, 8, -1)), (9, 8, 7, 2, -1))

    def test_no_comparers(self):
        self.assertEqual(Network(3, []).run((3, 1, 2)), (3, 1, 2))
        self.assertEqual(Network(1, []).run((-4,)), (-4,))

    def test_negative_and_very_large_numbers(self):
        network = Network(4, SORTING_FOUR)
        self.assertEqual(network.run((HUGE + 1, -HUGE, HUGE, -1)), (-HUGE, -1, HUGE, HUGE + 1))

    def test_a_sorting_network_sorts_every_row(self):
        network = Network(4, SORTING_FOUR)
        for row in product((-2, 0, 1, 3), repeat=4):
            self.assertEqual(network.run(row), tuple(sorted(row)))

    def test_the_result_is_a_tuple(self):
        for row in ((2, 1), [2, 1]):
            self.assertIs(type(Network(2, [(0, 1)]).run(row)), tuple)
            self.assertIs(type(Network(2, []).run(row)), tuple)

    def test_a_list_gives_what_the_tuple_gives_and_stays(self):
        network = Network(4, SORTING_FOUR)
        row = [4, 3, 2, 1]
        self.assertEqual(network.run(row), (1, 2, 3, 4))
        self.assertEqual(row, [4, 3, 2, 1])
        self.assertEqual(network.run(row), network.run((4, 3, 2, 1)))

    def test_called_again_it_gives_the_same(self):
        for network in some_networks():
            before = (network.wires, network.comparers)
            for row in rows_of(network):
                first = network.run(row)
                self.assertEqual(network.run(row), first)
                self.assertEqual(network.run(list(row)), first)
            self.assertEqual((network.wires, network.comparers), before)

    def test_a_run_does_not_touch_the_next_one(self):
        network = Network(3, [(0, 1), (1, 2), (0, 1)])
        self.assertEqual(network.run((3, 2, 1)), (1, 2, 3))
        self.assertEqual(network.run((0, 9, 5)), (0, 5, 9))
        self.assertEqual(network.run((3, 2, 1)), (1, 2, 3))


class Standard(unittest.TestCase):

    def test_all_comparers_standard(self):
        for network in (Network(4, SORTING_FOUR), Network(12, [(0, 11), (10, 11)])):
            self.assertIs(network.is_standard, True)

    def test_no_comparers(self):
        self.assertIs(Network(1, []).is_standard, True)
        self.assertIs(Network(5, []).is_standard, True)

    def test_one_that_is_not_at_any_place(self):
        for place in range(len(SORTING_FOUR) + 1):
            comparers = SORTING_FOUR[:place] + [(3, 2)] + SORTING_FOUR[place:]
            self.assertIs(Network(4, comparers).is_standard, False)

    def test_none_that_is(self):
        self.assertIs(Network(3, [(1, 0), (2, 0)]).is_standard, False)

    def test_standard_networks_leave_sorted_rows(self):
        for network in some_networks():
            if network.is_standard:
                for row in rows_of(network):
                    ordered = tuple(sorted(row))
                    self.assertEqual(network.run(ordered), ordered)


class Foreign:
    """An object with the fields of a network that is none."""

    def __init__(self, wires, comparers):
        self.wires = wires
        self.comparers = comparers


class EqualToAll:
    """A foreign object that takes itself for equal to everything."""

    def __eq__(self, other):
        return True


class Equality(unittest.TestCase):

    def assert_equal_networks(self, first, second):
        self.assertIs(first == second, True)
        self.assertIs(second == first, True)
        self.assertIs(first != second, False)

    def assert_unlike(self, first, second):
        self.assertIs(first == second, False)
        self.assertIs(first != second, True)

    def test_equal_fields(self):
        network = Network(3, [(0, 1), (2, 1)])
        self.assert_equal_networks(network, network)
        self.assert_equal_networks(network, Network(3, [(0, 1), (2, 1)]))
        self.assert_equal_networks(network, Network(3, ((0, 1), (2, 1))))
        self.assert_equal_networks(Network(1, []), Network(1, ()))

    def test_unlike_wires(self):
        self.assert_unlike(Network(3, [(0, 1)]), Network(2, [(0, 1)]))
        self.assert_unlike(Network(1, []), Network(2, []))

    def test_unlike_comparers(self):
        network = Network(3, [(0, 1), (1, 2)])
        for comparers in ([(1, 2), (0, 1)], [(0, 1)], [], [(1, 0), (1, 2)], [(0, 1), (1, 2), (1, 2)]):
            self.assert_unlike(network, Network(3, comparers))
            self.assert_unlike(Network(3, comparers), network)

    def test_equal_results_are_not_enough(self):
        self.assert_unlike(Network(2, [(0, 1)]), Network(2, [(0, 1), (0, 1)]))

    def test_foreign_objects(self):
        network = Network(2, [(0, 1)])
        pairs = ((0, 1),)
        for other in (None, 2, 0, "2: 0-1", "", pairs, (2, pairs), [2, pairs], {}, object(), Network, Foreign(2, pairs)):
            self.assert_unlike(network, other)
            self.assert_unlike(other, network)

    def test_a_foreign_object_is_not_asked(self):
        self.assert_unlike(Network(2, [(0, 1)]), EqualToAll())


if __name__ == "__main__":
    unittest.main()
