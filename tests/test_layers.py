"""The layers of a network and its depth."""

import unittest

from neededrows.network import Network, depth, layers
from tests.samples import SORTING_FOUR, rows_of, some_networks


def layers_as_told(network):
    """The layers by the words of the document: behind all layers with a common wire."""
    places = []
    for at, pair in enumerate(network.comparers):
        earlier = [place for place, other in zip(places, network.comparers[:at]) if set(other) & set(pair)]
        places.append(max(earlier, default=-1) + 1)
    count = max(places, default=-1) + 1
    return [
        [pair for pair, place in zip(network.comparers, places) if place == number]
        for number in range(count)
    ]


class Layers(unittest.TestCase):

    def test_a_sorting_network(self):
        self.assertEqual(
            layers(Network(4, SORTING_FOUR)),
            [[(0, 1), (2, 3)], [(0, 2), (1, 3)], [(1, 2)]],
        )

    def test_a_late_comparer_of_an_early_layer(self):
        self.assertEqual(
            layers(Network(5, [(0, 1), (1, 2), (0, 2), (3, 4)])),
            [[(0, 1), (3, 4)], [(1, 2)], [(0, 2)]],
        )

    def test_the_order_in_a_layer_is_that_of_the_network(self):
        self.assertEqual(layers(Network(6, [(4, 5), (2, 3), (0, 1)])), [[(4, 5), (2, 3), (0, 1)]])

    def test_behind_all_earlier_layers_not_into_a_gap(self):
        # Wire 3 is free in the second layer, but wire 0 is busy up to the third one.
        self.assertEqual(
            layers(Network(4, [(0, 1), (0, 2), (0, 1), (3, 0)])),
            [[(0, 1)], [(0, 2)], [(0, 1)], [(3, 0)]],
        )
        self.assertEqual(
            layers(Network(4, [(0, 1), (0, 2), (0, 1), (2, 3)])),
            [[(0, 1)], [(0, 2)], [(0, 1), (2, 3)]],
        )

    def test_any_common_wire_counts(self):
        for pair in ((0, 1), (1, 0), (0, 2), (2, 0), (1, 2), (2, 1)):
            self.assertEqual(layers(Network(3, [(0, 1), pair])), [[(0, 1)], [pair]])

    def test_comparers_that_are_not_standard(self):
        self.assertEqual(layers(Network(4, [(3, 0), (2, 1), (1, 3)])), [[(3, 0), (2, 1)], [(1, 3)]])

    def test_no_comparers_and_one_wire(self):
        self.assertEqual(layers(Network(1, [])), [])
        self.assertEqual(layers(Network(12, [])), [])

    def test_the_kinds_of_the_parts(self):
        found = layers(Network(4, SORTING_FOUR))
        self.assertIs(type(found), list)
        for layer in found:
            self.assertIs(type(layer), list)
            for pair in layer:
                self.assertIs(type(pair), tuple)

    def test_as_the_document_tells(self):
        for network in some_networks():
            self.assertEqual(layers(network), layers_as_told(network))

    def test_a_long_network(self):
        pairs = [((k * 5) % 12, (k * 7 + 3) % 12) for k in range(600)]
        network = Network(12, [(i, j) for i, j in pairs if i != j][:400])
        self.assertEqual(layers(network), layers_as_told(network))

    def test_the_layers_do_what_the_network_does(self):
        for network in some_networks():
            behind = [pair for layer in layers(network) for pair in layer]
            other = Network(network.wires, behind)
            for row in rows_of(network):
                self.assertEqual(other.run(row), network.run(row))

    def test_new_lists_at_each_call(self):
        network = Network(4, SORTING_FOUR)
        first = layers(network)
        first[0].append((3, 0))
        first[1].clear()
        first.append([])
        self.assertEqual(layers(network), [[(0, 1), (2, 3)], [(0, 2), (1, 3)], [(1, 2)]])
        self.assertEqual(network.comparers, tuple(SORTING_FOUR))
        bare = Network(2, [])
        layers(bare).append([(0, 1)])
        self.assertEqual(layers(bare), [])


class Depth(unittest.TestCase):

    def test_the_number_of_layers(self):
        self.assertEqual(depth(Network(4, SORTING_FOUR)), 3)
        self.assertEqual(depth(Network(5, [(0, 1), (1, 2), (3, 4)])), 2)
        self.assertEqual(depth(Network(2, [(0, 1)] * 400)), 400)
        for network in some_networks():
            self.assertEqual(depth(network), len(layers_as_told(network)))

    def test_no_comparers_and_one_wire(self):
        self.assertEqual(depth(Network(1, [])), 0)
        self.assertEqual(depth(Network(12, [])), 0)

    def test_it_is_a_number(self):
        for comparers in ([], [(0, 1)]):
            self.assertIs(type(depth(Network(2, comparers))), int)

    def test_called_again_it_gives_the_same(self):
        network = Network(4, SORTING_FOUR)
        self.assertEqual([depth(network), depth(network)], [3, 3])
        self.assertEqual(network.comparers, tuple(SORTING_FOUR))


if __name__ == "__main__":
    unittest.main()
