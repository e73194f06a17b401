"""How far results are from sorted ones, and networks that do as much with fewer comparers."""

import unittest
from itertools import combinations, permutations, product

from neededrows.distance import early, late, pruned, shortest
from neededrows.network import Network, mirrored
from tests.samples import (
    HUGE,
    SORTING_FOUR,
    all_networks,
    made_standard,
    scattered,
    sorting,
    without,
)


def standard_pairs(wires):
    return [(i, j) for i in range(wires) for j in range(i + 1, wires)]


def standard_networks(wires, most):
    return [
        Network(wires, list(chosen))
        for many in range(most + 1)
        for chosen in product(standard_pairs(wires), repeat=many)
    ]


def some_standard():
    """Small standard networks of all kinds and a few larger ones."""
    return (
        [Network(1, []), Network(2, []), Network(2, [(0, 1)])]
        + standard_networks(3, 3)
        + standard_networks(4, 2)
        + [Network(4, without(SORTING_FOUR, at)) for at in range(5)]
        + [Network(5, without(sorting(5), at)) for at in range(10)]
        + [Network(5, made_standard(scattered(5, many, many))) for many in range(8)]
        + [Network(6, made_standard(scattered(6, many, many))) for many in (0, 4, 9, 14)]
    )


def distances_by_rows(network):
    """For all rows of different numbers, how far numbers stand behind their places at most, and ahead."""
    results = [network.run(row) for row in permutations(range(network.wires))]
    found = [wire - number for result in results for wire, number in enumerate(result)]
    return (max(found), -min(found))


def distances_by_plain_rows(network):
    """The same by the plain rows, with the words of the document."""
    behind, ahead = [], []
    for row in product((0, 1), repeat=network.wires):
        result, z = network.run(row), row.count(0)
        if z > 0:
            p = max(wire for wire, number in enumerate(result) if number == 0)
            behind.append(p - (z - 1))
        if z < network.wires:
            p = min(wire for wire, number in enumerate(result) if number == 1)
            ahead.append(z - p)
    return (max(behind), max(ahead))


class LateAndEarly(unittest.TestCase):

    def assert_distances(self, network, behind, ahead):
        self.assertEqual((late(network), early(network)), (behind, ahead), network.comparers)
        self.assertIs(type(late(network)), int)
        self.assertIs(type(early(network)), int)

    def test_networks_that_sort(self):
        for wires in range(1, 9):
            self.assert_distances(Network(wires, sorting(wires)), 0, 0)
        self.assert_distances(Network(4, SORTING_FOUR), 0, 0)

    def test_no_comparers(self):
        for wires in range(1, 9):
            self.assert_distances(Network(wires, []), wires - 1, wires - 1)

    def test_late_and_early_differ(self):
        # In the first one a 0 on the wire 2 stays; a 2 on the wire 0 goes to the wire 1 at least.
        self.assert_distances(Network(3, [(0, 1)]), 2, 1)
        self.assert_distances(Network(3, [(1, 2)]), 1, 2)
        self.assert_distances(Network(3, [(0, 2)]), 1, 1)
        self.assert_distances(Network(3, [(0, 1), (1, 2)]), 1, 1)
        self.assert_distances(Network(4, [(0, 1), (1, 2), (2, 3)]), 2, 2)

    def test_by_all_rows_of_different_numbers(self):
        for network in some_standard():
            self.assert_distances(network, *distances_by_rows(network))

    def test_by_the_plain_rows(self):
        samples = some_standard()
        for wires in (7, 8):
            samples += [Network(wires, made_standard(scattered(wires, many, many))) for many in (3, 10, 16, 120)]
            samples += [Network(wires, without(sorting(wires), at)) for at in (0, 9, 20)]
        for network in samples:
            self.assert_distances(network, *distances_by_plain_rows(network))

    def test_in_the_mirrored_network_they_are_exchanged(self):
        for network in some_standard():
            self.assert_distances(mirrored(network), early(network), late(network))

    def test_the_argument_stays(self):
        network = Network(4, SORTING_FOUR[:3])
        self.assertEqual([late(network), early(network)], [late(network), early(network)])
        self.assertEqual((network.wires, network.comparers), (4, tuple(SORTING_FOUR[:3])))


def pruned_as_told(network, wanted):
    """The comparers that stay by the words of the document, as a set of wires that matter."""
    mattering, staying = set(wanted), []
    for pair in reversed(network.comparers):
        if mattering & set(pair):
            mattering |= set(pair)
            staying.insert(0, pair)
    return tuple(staying)


def some_wanted(wires):
    """Tuples of one wire, of some and of all."""
    sizes = range(1, wires + 1) if wires < 5 else (1, 2, wires - 1, wires)
    return [wanted for many in sizes for wanted in combinations(range(wires), many)]


class Pruned(unittest.TestCase):

    def assert_pruned(self, network, wanted, comparers):
        found = pruned(network, wanted)
        self.assertIs(type(found), Network)
        self.assertEqual((found.wires, found.comparers), (network.wires, tuple(comparers)), wanted)

    def test_one_wire_wanted(self):
        network = Network(4, SORTING_FOUR)
        self.assert_pruned(network, (0,), [(0, 1), (2, 3), (0, 2)])
        self.assert_pruned(network, (3,), [(0, 1), (2, 3), (1, 3)])
        self.assert_pruned(network, (1,), SORTING_FOUR)

    def test_some_wires_wanted(self):
        network = Network(4, SORTING_FOUR)
        self.assert_pruned(network, (0, 3), SORTING_FOUR[:4])
        self.assert_pruned(Network(5, [(0, 1), (3, 4), (1, 2), (3, 4)]), (0, 2), [(0, 1), (1, 2)])

    def test_all_wires_wanted(self):
        for network in all_networks(3, 2):
            self.assert_pruned(network, (0, 1, 2), network.comparers)

    def test_only_comparers_behind_make_a_wire_matter(self):
        self.assert_pruned(Network(3, [(0, 1), (1, 2)]), (0,), [(0, 1)])
        self.assert_pruned(Network(3, [(1, 2), (0, 1)]), (0,), [(1, 2), (0, 1)])

    def test_both_wires_of_one_that_stays_matter(self):
        self.assert_pruned(Network(4, [(2, 3), (1, 2), (0, 1)]), (0,), [(2, 3), (1, 2), (0, 1)])
        self.assert_pruned(Network(4, [(2, 3), (1, 2), (1, 0)]), (0,), [(2, 3), (1, 2), (1, 0)])
        self.assert_pruned(Network(4, [(3, 2), (2, 1), (0, 1)]), (1,), [(3, 2), (2, 1), (0, 1)])
        self.assert_pruned(Network(4, [(3, 2), (2, 1), (0, 1)]), (3,), [(3, 2)])

    def test_one_that_changes_nothing_stays(self):
        self.assert_pruned(Network(2, [(0, 1), (0, 1)]), (0,), [(0, 1), (0, 1)])

    def test_no_comparers_and_one_wire(self):
        self.assert_pruned(Network(1, []), (0,), [])
        self.assert_pruned(Network(12, []), (3, 4), [])
        self.assert_pruned(Network(3, [(0, 1)]), (2,), [])

    def test_as_the_document_tells(self):
        samples = all_networks(3, 3)[::3] + some_standard()[::3]
        samples += [Network(wires, scattered(wires, many)) for wires in (4, 6, 12) for many in (5, 12, 30)]
        for network in samples:
            for wanted in some_wanted(network.wires):
                self.assert_pruned(network, wanted, pruned_as_told(network, wanted))

    def test_equal_results_on_the_wanted_wires(self):
        samples = all_networks(3, 2) + [Network(4, SORTING_FOUR)]
        samples += [Network(4, scattered(4, many, many)) for many in range(10)]
        for network in samples:
            rows = list(product((0, 1, 2), repeat=network.wires))
            rows.append(tuple(HUGE * (-1) ** k - k for k in range(network.wires)))
            for wanted in some_wanted(network.wires):
                other = pruned(network, wanted)
                for row in rows:
                    result, told = other.run(row), network.run(row)
                    self.assertEqual([result[w] for w in wanted], [told[w] for w in wanted])

    def test_four_hundred_comparers(self):
        network = Network(12, scattered(6, 200) + [(i + 6, j + 6) for i, j in scattered(6, 200)])
        for wanted in ((0,), (5,), (6,), (11,), (0, 11), (1, 2, 3), tuple(range(12))):
            self.assert_pruned(network, wanted, pruned_as_told(network, wanted))
        for wanted in ((4,), tuple(range(12))):
            long = Network(12, scattered(12, 400))
            self.assert_pruned(long, wanted, pruned_as_told(long, wanted))

    def test_the_arguments_stay(self):
        network, wanted = Network(4, SORTING_FOUR), (0, 3)
        self.assertEqual(pruned(network, wanted), pruned(network, wanted))
        self.assertEqual((network.wires, network.comparers, wanted), (4, tuple(SORTING_FOUR), (0, 3)))


def behaviour(wires, comparers):
    network = Network(wires, list(comparers))
    return tuple(network.run(row) for row in product((0, 1), repeat=wires))


def shortest_by_trying(network):
    """The first one of all standard networks, by their numbers of comparers and then by these."""
    told = behaviour(network.wires, network.comparers)
    for many in range(len(network.comparers) + 1):
        for chosen in sorted(product(standard_pairs(network.wires), repeat=many)):
            if behaviour(network.wires, chosen) == told:
                return chosen
    return None


class Shortest(unittest.TestCase):

    def assert_shortest(self, wires, comparers, told):
        network = Network(wires, comparers)
        found = shortest(network)
        self.assertIs(type(found), Network)
        self.assertEqual((found.wires, found.comparers), (wires, tuple(told)), comparers)

    def test_one_wire(self):
        self.assert_shortest(1, [], [])

    def test_two_wires(self):
        self.assert_shortest(2, [], [])
        self.assert_shortest(2, [(0, 1)], [(0, 1)])
        self.assert_shortest(2, [(0, 1), (0, 1)], [(0, 1)])
        self.assert_shortest(2, [(0, 1)] * 400, [(0, 1)])

    def test_three_wires(self):
        self.assert_shortest(3, [], [])
        self.assert_shortest(3, [(1, 2), (1, 2)], [(1, 2)])
        self.assert_shortest(3, [(0, 1), (1, 2)], [(0, 1), (1, 2)])
        self.assert_shortest(3, [(0, 2), (0, 1), (0, 1)], [(0, 2), (0, 1)])

    def test_the_first_one_of_those_that_sort(self):
        for pairs in ([(1, 2), (0, 1), (1, 2)], [(1, 2), (0, 2), (0, 1)], [(0, 1), (1, 2), (0, 1), (0, 2)]):
            self.assert_shortest(3, pairs, [(0, 1), (0, 2), (1, 2)])

    def test_by_trying(self):
        for network in standard_networks(3, 5):
            self.assert_shortest(3, network.comparers, shortest_by_trying(network))

    def test_standard_with_the_same_result_for_every_row(self):
        rows = list(product((-10 ** 40, 0, 1, 7), repeat=3))
        for network in standard_networks(3, 4):
            found = shortest(network)
            self.assertIs(found.is_standard, True)
            self.assertLessEqual(len(found.comparers), len(network.comparers))
            for row in rows:
                self.assertEqual(found.run(row), network.run(row))

    def test_four_hundred_comparers(self):
        self.assert_shortest(3, [(0, 1)] * 200 + [(1, 2)] * 200, [(0, 1), (1, 2)])
        self.assert_shortest(3, made_standard(scattered(3, 400)), [(0, 1), (0, 2), (1, 2)])

    def test_the_argument_stays(self):
        network = Network(3, [(1, 2), (0, 1), (1, 2)])
        self.assertEqual(shortest(network), shortest(network))
        self.assertEqual((network.wires, network.comparers), (3, ((1, 2), (0, 1), (1, 2))))

    def test_somewhat_beyond_the_limits(self):
        self.assert_shortest(4, [(2, 3), (0, 1), (2, 3)], [(0, 1), (2, 3)])
        self.assertEqual(len(shortest(Network(4, sorting(4))).comparers), 5)


if __name__ == "__main__":
    unittest.main()
