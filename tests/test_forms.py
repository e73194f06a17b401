"""What each wire of a result depends on, and which comparers never act."""

import unittest
from itertools import combinations, product

from neededrows.alike import parted
from neededrows.forms import by_sets, idle, sets, trimmed
from neededrows.network import Network
from tests.samples import (
    HUGE,
    SORTING_FOUR,
    all_networks,
    made_standard,
    rows_of,
    scattered,
    some_networks,
    sorting,
)


def sets_as_told(network, wire):
    """The sets by the words of the document: every set of wires is tried."""
    wires = range(network.wires)
    results = [(row, network.run(row)[wire]) for row in product((0, 1), repeat=network.wires)]
    having = [
        chosen
        for many in range(network.wires + 1)
        for chosen in combinations(wires, many)
        if all(number == 1 for row, number in results if all(row[at] == 1 for at in chosen))
    ]
    return sorted(
        chosen for chosen in having if not any(set(other) < set(chosen) for other in having)
    )


def idle_as_told(network, rows):
    """The comparers that act on none of the rows, each row going through alone."""
    acting = set()
    for row in rows:
        numbers = list(row)
        for at, (i, j) in enumerate(network.comparers):
            if numbers[i] > numbers[j]:
                acting.add(at)
                numbers[i], numbers[j] = numbers[j], numbers[i]
    return [at for at in range(len(network.comparers)) if at not in acting]


class Sets(unittest.TestCase):

    def test_one_comparer(self):
        network = Network(2, [(0, 1)])
        self.assertEqual(sets(network, 0), [(0, 1)])
        self.assertEqual(sets(network, 1), [(0,), (1,)])

    def test_a_comparer_that_is_not_standard(self):
        network = Network(2, [(1, 0)])
        self.assertEqual(sets(network, 0), [(0,), (1,)])
        self.assertEqual(sets(network, 1), [(0, 1)])

    def test_no_comparers_and_one_wire(self):
        self.assertEqual(sets(Network(1, []), 0), [(0,)])
        for wire in range(8):
            self.assertEqual(sets(Network(8, []), wire), [(wire,)])

    def test_wires_that_no_comparer_has(self):
        network = Network(4, [(0, 2)])
        self.assertEqual([sets(network, wire) for wire in (1, 3)], [[(1,)], [(3,)]])

    def test_ascending_as_tuples_not_by_their_lengths(self):
        network = Network(3, [(1, 2), (0, 1)])
        self.assertEqual(sets(network, 1), [(0,), (1, 2)])
        network = Network(4, [(0, 1), (1, 2), (3, 2)])
        self.assertEqual(sets(network, 2), [(0,), (1,), (2,), (3,)])
        network = Network(4, [(0, 3), (1, 3)])
        self.assertEqual(sets(network, 1), [(0, 1), (1, 3)])
        network = Network(3, [(0, 1), (2, 1)])
        self.assertEqual(sets(network, 2), [(0, 2), (1, 2)])
        # A shorter set may stand behind a longer one.
        network = Network(3, [(0, 1), (0, 2)])
        self.assertEqual(sets(network, 2), [(0, 1), (2,)])

    def test_a_set_within_another_one_is_no_set_twice(self):
        network = Network(3, [(0, 1), (1, 2), (0, 1), (0, 1)])
        self.assertEqual(sets(network, 1), [(0, 1), (0, 2), (1, 2)])

    def test_a_sorting_network(self):
        for wires in range(1, 9):
            network = Network(wires, sorting(wires))
            for wire in range(wires):
                self.assertEqual(sets(network, wire), list(combinations(range(wires), wires - wire)))

    def test_as_the_document_tells(self):
        samples = some_networks() + all_networks(3, 3)[::5]
        samples += [Network(4, scattered(4, many, many)) for many in range(12)]
        samples += [Network(6, scattered(6, 9)), Network(6, made_standard(scattered(6, 11)))]
        for network in samples:
            for wire in range(network.wires):
                self.assertEqual(sets(network, wire), sets_as_told(network, wire), (network.comparers, wire))

    def test_the_bounds(self):
        for many in (20, 120):
            network = Network(8, scattered(8, many))
            for wire in (0, 3, 7):
                self.assertEqual(sets(network, wire), sets_as_told(network, wire))

    def test_the_kinds_of_the_parts(self):
        found = sets(Network(4, SORTING_FOUR), 2)
        self.assertIs(type(found), list)
        for wires in found:
            self.assertIs(type(wires), tuple)
            for wire in wires:
                self.assertIs(type(wire), int)

    def test_a_new_list_at_each_call(self):
        network = Network(4, SORTING_FOUR)
        for wire in range(4):
            first = sets(network, wire)
            told = list(first)
            first.append((0,))
            first.reverse()
            self.assertEqual(sets(network, wire), told)
        self.assertEqual((network.wires, network.comparers), (4, tuple(SORTING_FOUR)))


class BySets(unittest.TestCase):

    def test_the_greatest_of_the_least_numbers(self):
        row = (5, 3, 8)
        self.assertEqual(by_sets([(0, 1)], row), 3)
        self.assertEqual(by_sets([(0,), (1,)], row), 5)
        self.assertEqual(by_sets([(0, 1), (0, 2), (1, 2)], row), 5)
        self.assertEqual(by_sets([(0, 1, 2)], row), 3)
        self.assertEqual(by_sets([(2,)], row), 8)

    def test_equal_numbers(self):
        self.assertEqual(by_sets([(0, 1), (2,)], (4, 4, 4)), 4)
        self.assertEqual(by_sets([(0, 1), (1, 2)], (2, 7, 2)), 2)

    def test_negative_numbers(self):
        self.assertEqual(by_sets([(0, 1), (2,)], (-1, -5, -7)), -5)
        self.assertEqual(by_sets([(0,), (1,)], (-1, -2)), -1)
        self.assertEqual(by_sets([(0, 1)], (0, -2)), -2)

    def test_very_large_numbers(self):
        self.assertEqual(by_sets([(0, 1), (2,)], (HUGE, HUGE + 1, -HUGE)), HUGE)
        self.assertEqual(by_sets([(0,), (1,)], (-HUGE, -HUGE - 1)), -HUGE)

    def test_one_wire(self):
        self.assertEqual(by_sets([(0,)], (-4,)), -4)

    def test_it_is_the_number_of_the_result(self):
        samples = some_networks() + [Network(5, scattered(5, many, many)) for many in range(4, 12)]
        for network in samples:
            found = [sets(network, wire) for wire in range(network.wires)]
            for row in rows_of(network):
                told = tuple(by_sets(one, row) for one in found)
                self.assertEqual(told, network.run(row), (network.comparers, row))

    def test_eight_wires(self):
        for pairs in (sorting(8), scattered(8, 120), made_standard(scattered(8, 20))):
            network = Network(8, pairs)
            rows = [tuple(range(8, 0, -1)), (3, -3, HUGE, 0, 0, -HUGE, 3, 1), (-2,) * 8]
            for wire in range(8):
                found = sets(network, wire)
                for row in rows:
                    self.assertEqual(by_sets(found, row), network.run(row)[wire])

    def test_twelve_wires(self):
        found = list(combinations(range(12), 6))
        row = tuple((7 * k) % 12 - 5 for k in range(12))
        self.assertEqual(by_sets(found, row), sorted(row)[6])

    def test_it_is_a_number_and_the_arguments_stay(self):
        found, row = [(0, 1), (2,)], (1, 0, 0)
        self.assertIs(type(by_sets(found, row)), int)
        self.assertEqual(by_sets(found, row), by_sets(tuple(found), row))
        self.assertEqual(found, [(0, 1), (2,)])


class Idle(unittest.TestCase):

    def test_the_same_comparer_again(self):
        self.assertEqual(idle(Network(2, [(0, 1), (0, 1), (0, 1)])), [1, 2])
        self.assertEqual(idle(Network(3, [(0, 1), (1, 2), (1, 2), (0, 1), (0, 1)])), [2, 4])

    def test_the_same_wires_the_other_way_act(self):
        self.assertEqual(idle(Network(2, [(0, 1), (1, 0), (1, 0), (0, 1)])), [2])
        self.assertEqual(idle(Network(2, [(1, 0), (1, 0)])), [1])

    def test_behind_a_sorting_network_all_are_idle(self):
        extra = [(0, 3), (1, 2), (0, 1), (2, 3)]
        self.assertEqual(idle(Network(4, SORTING_FOUR + extra)), [5, 6, 7, 8])
        self.assertEqual(idle(Network(4, SORTING_FOUR + [(3, 0)] + extra[:1])), [])

    def test_idle_without_being_an_earlier_one_again(self):
        self.assertEqual(idle(Network(3, [(0, 1), (1, 2), (0, 2)])), [2])
        self.assertEqual(idle(Network(4, [(0, 1), (2, 3), (0, 2), (0, 3), (0, 1)])), [3, 4])

    def test_none_idle(self):
        for wires in range(1, 9):
            self.assertEqual(idle(Network(wires, sorting(wires))), [])
        self.assertEqual(idle(Network(4, SORTING_FOUR)), [])

    def test_no_comparers_and_one_wire(self):
        self.assertEqual(idle(Network(1, [])), [])
        self.assertEqual(idle(Network(8, [])), [])

    def test_as_the_document_tells(self):
        samples = some_networks() + all_networks(3, 3)
        samples += [Network(4, scattered(4, 14, start)) for start in range(10)]
        samples += [Network(4, made_standard(scattered(4, 14, start))) for start in range(10)]
        for network in samples:
            rows = list(product(range(network.wires), repeat=network.wires))
            self.assertEqual(idle(network), idle_as_told(network, rows), network.comparers)

    def test_the_bounds(self):
        plain = list(product((0, 1), repeat=8))
        for pairs in (scattered(8, 120), made_standard(scattered(8, 120)), [(6, 2)] * 120):
            network = Network(8, pairs)
            self.assertEqual(idle(network), idle_as_told(network, plain))

    def test_the_kinds_of_the_parts(self):
        found = idle(Network(2, [(0, 1), (0, 1), (0, 1)]))
        self.assertIs(type(found), list)
        for index in found:
            self.assertIs(type(index), int)

    def test_a_new_list_at_each_call(self):
        network = Network(2, [(0, 1), (0, 1), (0, 1)])
        idle(network).append(0)
        self.assertEqual(idle(network), [1, 2])
        self.assertEqual((network.wires, network.comparers), (2, ((0, 1),) * 3))


class Trimmed(unittest.TestCase):

    def test_the_comparers_that_stay_in_order(self):
        self.assertEqual(trimmed(Network(2, [(0, 1), (0, 1)])), Network(2, [(0, 1)]))
        self.assertEqual(
            trimmed(Network(3, [(2, 1), (2, 1), (0, 2), (1, 0), (1, 0)])),
            Network(3, [(2, 1), (0, 2), (1, 0)]),
        )
        self.assertEqual(trimmed(Network(4, SORTING_FOUR + [(0, 3), (1, 2)])), Network(4, SORTING_FOUR))

    def test_an_equal_comparer_that_acts_stays(self):
        pairs = [(0, 1), (1, 2), (0, 1)]
        self.assertEqual(trimmed(Network(3, pairs + [(0, 1)])), Network(3, pairs))

    def test_nothing_to_leave_out(self):
        for wires in range(1, 9):
            network = Network(wires, sorting(wires))
            self.assertEqual(trimmed(network), network)
            self.assertEqual(trimmed(Network(wires, [])), Network(wires, []))

    def test_it_does_with_every_row_what_the_network_does(self):
        samples = some_networks() + all_networks(3, 3)
        samples += [Network(5, scattered(5, 30, start)) for start in range(5)]
        for network in samples:
            found = trimmed(network)
            self.assertIs(type(found), Network)
            self.assertEqual(found.wires, network.wires)
            for row in rows_of(network):
                self.assertEqual(found.run(row), network.run(row), network.comparers)
            kept = [pair for at, pair in enumerate(network.comparers) if at not in idle(network)]
            self.assertEqual(found.comparers, tuple(kept))
            self.assertEqual(idle(found), [])

    def test_the_bounds(self):
        for pairs in (scattered(8, 120), made_standard(scattered(8, 120))):
            network = Network(8, pairs)
            found = trimmed(network)
            self.assertIsNone(parted(found, network))
            self.assertEqual(idle(found), [])
            self.assertLess(len(found.comparers), 120)

    def test_called_again_it_gives_the_same_and_changes_nothing(self):
        network = Network(2, [(0, 1), (0, 1)])
        self.assertEqual(trimmed(network), trimmed(network))
        self.assertEqual(network.comparers, ((0, 1), (0, 1)))


if __name__ == "__main__":
    unittest.main()
