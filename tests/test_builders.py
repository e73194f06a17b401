"""Networks that are made by rule."""

import unittest
from itertools import product

from neededrows.builders import batcher, bitonic_merging, bricks, bubbles, insertion, merging
from neededrows.needed import does
from neededrows.network import Network

# The numbers of comparers for 1 to 12 wires, from the words of the document, by hand.
BATCHER_COUNTS = [0, 1, 3, 5, 9, 12, 16, 19, 26, 31, 37, 41]


def most_for_merging(p, q):
    """m(p, q) by the words of the document."""
    if p == 0 or q == 0:
        return 0
    if p == 1 and q == 1:
        return 1
    halves = most_for_merging((p + 1) // 2, (q + 1) // 2) + most_for_merging(p // 2, q // 2)
    return halves + (p + q - 1) // 2


def most_for_batcher(n):
    """b(n) by the words of the document."""
    if n == 1:
        return 0
    low, high = (n + 1) // 2, n // 2
    return most_for_batcher(low) + most_for_batcher(high) + most_for_merging(low, high)


def sorts_all_plain_rows(network):
    return all(list(network.run(row)) == sorted(row) for row in product((0, 1), repeat=network.wires))


class Checks(unittest.TestCase):

    def assert_made(self, network, wires, comparers):
        self.assertIs(type(network), Network)
        self.assertEqual(network.wires, wires)
        self.assertEqual(network.comparers, tuple(comparers))

    def assert_standard(self, network, wires):
        self.assertIs(type(network), Network)
        self.assertEqual(network.wires, wires)
        for i, j in network.comparers:
            self.assertLess(i, j)


class Insertion(Checks):

    def test_the_comparers_in_order(self):
        self.assert_made(insertion(3), 3, [(0, 1), (1, 2), (0, 1)])
        self.assert_made(insertion(4), 4, [(0, 1), (1, 2), (0, 1), (2, 3), (1, 2), (0, 1)])

    def test_one_wire_and_two_wires(self):
        self.assert_made(insertion(1), 1, [])
        self.assert_made(insertion(2), 2, [(0, 1)])

    def test_as_the_document_tells(self):
        for wires in range(1, 13):
            told = []
            for w in range(1, wires):
                for step in range(w):
                    told.append((w - 1 - step, w - step))
            self.assert_made(insertion(wires), wires, told)

    def test_it_sorts(self):
        for wires in range(1, 13):
            self.assertTrue(sorts_all_plain_rows(insertion(wires)))
        self.assertEqual(insertion(5).run((4, -4, 4, 10 ** 40, 0)), (-4, 0, 4, 4, 10 ** 40))


class Bubbles(Checks):

    def test_the_comparers_in_order(self):
        self.assert_made(bubbles(3), 3, [(0, 1), (1, 2), (0, 1)])
        self.assert_made(bubbles(4), 4, [(0, 1), (1, 2), (2, 3), (0, 1), (1, 2), (0, 1)])

    def test_one_wire_and_two_wires(self):
        self.assert_made(bubbles(1), 1, [])
        self.assert_made(bubbles(2), 2, [(0, 1)])

    def test_as_the_document_tells(self):
        for wires in range(1, 13):
            told = []
            for left_out in range(wires - 1):
                for i in range(wires - 1 - left_out):
                    told.append((i, i + 1))
            self.assert_made(bubbles(wires), wires, told)

    def test_it_sorts(self):
        for wires in range(1, 13):
            self.assertTrue(sorts_all_plain_rows(bubbles(wires)))
        self.assertEqual(bubbles(5).run((4, -4, 4, 10 ** 40, 0)), (-4, 0, 4, 4, 10 ** 40))


class Bricks(Checks):

    def test_the_comparers_in_order(self):
        self.assert_made(bricks(4, 3), 4, [(0, 1), (2, 3), (1, 2), (0, 1), (2, 3)])
        self.assert_made(bricks(5, 2), 5, [(0, 1), (2, 3), (1, 2), (3, 4)])

    def test_no_rounds(self):
        for wires in range(1, 13):
            self.assert_made(bricks(wires, 0), wires, [])

    def test_one_wire_and_two_wires(self):
        for rounds in range(41):
            self.assert_made(bricks(1, rounds), 1, [])
            self.assert_made(bricks(2, rounds), 2, [(0, 1)] * ((rounds + 1) // 2))

    def test_as_the_document_tells(self):
        for wires in range(1, 13):
            for rounds in range(41):
                told = [(i, i + 1) for r in range(rounds) for i in range(wires - 1) if i % 2 == r % 2]
                self.assert_made(bricks(wires, rounds), wires, told)

    def test_it_sorts_with_as_many_rounds_as_wires_or_more(self):
        for wires in range(1, 13):
            self.assertTrue(sorts_all_plain_rows(bricks(wires, wires)))
        for wires in range(1, 8):
            for more in (1, 2, 3, 40 - wires):
                self.assertTrue(sorts_all_plain_rows(bricks(wires, wires + more)))

    def test_it_does_not_sort_with_fewer(self):
        for wires in range(3, 13):
            self.assertFalse(sorts_all_plain_rows(bricks(wires, wires - 1)))
            self.assertFalse(sorts_all_plain_rows(bricks(wires, wires - 2)))
        self.assertFalse(sorts_all_plain_rows(bricks(2, 0)))
        self.assertTrue(sorts_all_plain_rows(bricks(2, 1)))

    def test_somewhat_beyond_the_limits(self):
        self.assertEqual(bricks(12, 45).comparers[:220], bricks(12, 40).comparers)


class Merging(Checks):

    def test_the_smallest(self):
        self.assert_made(merging(1, 1), 2, [(0, 1)])
        self.assertEqual(len(merging(2, 2).comparers), 3)
        self.assertEqual(len(merging(1, 2).comparers), 2)

    def test_standard_with_few_comparers(self):
        for p in range(1, 12):
            for q in range(1, 13 - p):
                network = merging(p, q)
                self.assert_standard(network, p + q)
                self.assertLessEqual(len(network.comparers), most_for_merging(p, q))

    def test_the_task_is_done(self):
        for p in range(1, 12):
            for q in range(1, 13 - p):
                self.assertEqual(does(merging(p, q), ("merge", p)), (True, None), (p, q))

    def test_rows_of_other_numbers(self):
        for p in range(1, 12):
            for q in range(1, 13 - p):
                network = merging(p, q)
                for factor in (1, 5, 7):
                    numbers = [(k * factor) % 13 // 2 - 10 ** 40 * (k % 3) for k in range(p + q)]
                    row = sorted(numbers[:p]) + sorted(numbers[p:])
                    self.assertEqual(network.run(row), tuple(sorted(numbers)))

    def test_a_part_that_is_empty_needs_no_comparers(self):
        self.assertEqual(merging(0, 3).comparers, ())
        self.assertEqual(merging(3, 0).comparers, ())


class Batcher(Checks):

    def test_standard_with_few_comparers(self):
        for wires in range(1, 13):
            network = batcher(wires)
            self.assert_standard(network, wires)
            self.assertEqual(most_for_batcher(wires), BATCHER_COUNTS[wires - 1])
            self.assertLessEqual(len(network.comparers), BATCHER_COUNTS[wires - 1])

    def test_it_sorts(self):
        for wires in range(1, 13):
            self.assertTrue(sorts_all_plain_rows(batcher(wires)), wires)
        self.assertEqual(batcher(5).run((4, -4, 4, 10 ** 40, 0)), (-4, 0, 4, 4, 10 ** 40))

    def test_one_wire_and_two_wires(self):
        self.assert_made(batcher(1), 1, [])
        self.assert_made(batcher(2), 2, [(0, 1)])


class BitonicMerging(Checks):

    def test_the_comparers_in_order(self):
        self.assert_made(bitonic_merging(1), 1, [])
        self.assert_made(bitonic_merging(2), 2, [(0, 1)])
        self.assert_made(bitonic_merging(4), 4, [(0, 2), (1, 3), (0, 1), (2, 3)])
        self.assert_made(
            bitonic_merging(8),
            8,
            [(0, 4), (1, 5), (2, 6), (3, 7), (0, 2), (1, 3), (4, 6), (5, 7), (0, 1), (2, 3), (4, 5), (6, 7)],
        )

    def test_the_task_is_done(self):
        for wires in (1, 2, 4, 8):
            self.assertEqual(does(bitonic_merging(wires), ("bitonic",)), (True, None))

    def test_rows_that_rise_and_fall_around(self):
        network = bitonic_merging(8)
        rising_and_falling = (-10 ** 40, 2, 2, 9, 10 ** 40, 7, 2, 0)
        for taken in range(8):
            row = rising_and_falling[taken:] + rising_and_falling[:taken]
            self.assertEqual(network.run(row), tuple(sorted(row)))

    def test_somewhat_beyond_the_limits(self):
        for wires in (3, 5, 6, 7, 12):
            self.assert_standard(bitonic_merging(wires), wires)
        self.assertEqual(len(bitonic_merging(16).comparers), 32)


class Again(unittest.TestCase):

    def test_called_again_each_gives_the_same(self):
        for wires in (1, 2, 5, 8, 12):
            for maker in (insertion, bubbles, batcher):
                self.assertEqual(maker(wires), maker(wires))
            self.assertEqual(bricks(wires, 7), bricks(wires, 7))
            self.assertEqual(merging(wires, 3), merging(wires, 3))
        self.assertEqual(bitonic_merging(8), bitonic_merging(8))


if __name__ == "__main__":
    unittest.main()
