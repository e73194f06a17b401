"""Networks of balancers: what they do with tokens, and whether they count."""

import unittest
from itertools import product

from neededrows.builders import batcher, bitonic_merging, bricks, insertion
from neededrows.counting import counted, counting
from neededrows.network import Network, depth, joined, renamed, widened
from tests.samples import all_networks, scattered, sorting

MANY = 10 ** 45 + 7
# A network for four wires that counts, and one that sorts just as well but does not count.
COUNTS_FOUR = [(0, 1), (2, 3), (0, 3), (1, 2), (0, 1), (2, 3)]
SORTS_FOUR = [(0, 1), (2, 3), (0, 2), (1, 3), (1, 2)]


def is_step(numbers):
    """By the words of the document: the number on the wire k is (s - k + n - 1) // n."""
    s, n = sum(numbers), len(numbers)
    return [(s - k + n - 1) // n for k in range(n)] == list(numbers)


def counted_as_told(network, tokens):
    """Each token goes alone: the first one leaves a balancer on i, the next one on j, by turns."""
    turns = [0] * len(network.comparers)
    result = [0] * network.wires
    for wire, many in enumerate(tokens):
        for _ in range(many):
            at = wire
            for k, (i, j) in enumerate(network.comparers):
                if at in (i, j):
                    at = i if turns[k] == 0 else j
                    turns[k] = 1 - turns[k]
            result[at] += 1
    return tuple(result)


def counts_few(network, most):
    """Whether the results of all rows with few tokens on each wire are steps."""
    rows = product(range(most + 1), repeat=network.wires)
    return all(is_step(counted_as_told(network, row)) for row in rows)


class Counted(unittest.TestCase):

    def assert_counted(self, wires, comparers, tokens, told):
        found = counted(Network(wires, comparers), tokens)
        self.assertEqual(found, told)
        self.assertIs(type(found), tuple)
        for number in found:
            self.assertIs(type(number), int)

    def test_one_balancer(self):
        self.assert_counted(2, [(0, 1)], (3, 2), (3, 2))
        self.assert_counted(2, [(0, 1)], (0, 5), (3, 2))
        self.assert_counted(2, [(0, 1)], (4, 0), (2, 2))
        self.assert_counted(2, [(0, 1)], (0, 1), (1, 0))

    def test_a_balancer_that_is_not_standard(self):
        self.assert_counted(2, [(1, 0)], (3, 2), (2, 3))
        self.assert_counted(3, [(2, 0)], (1, 9, 0), (0, 9, 1))

    def test_one_behind_the_other(self):
        self.assert_counted(3, [(0, 1), (1, 2)], (5, 0, 0), (3, 1, 1))
        self.assert_counted(3, [(1, 2), (0, 1)], (5, 0, 0), (3, 2, 0))
        self.assert_counted(4, COUNTS_FOUR, (0, 0, 0, 7), (2, 2, 2, 1))

    def test_no_tokens(self):
        self.assert_counted(4, COUNTS_FOUR, (0, 0, 0, 0), (0, 0, 0, 0))

    def test_no_comparers(self):
        self.assert_counted(3, [], (5, 0, MANY), (5, 0, MANY))
        self.assert_counted(1, [], (9,), (9,))

    def test_very_many_tokens(self):
        self.assert_counted(2, [(0, 1)], (MANY, 0), ((MANY + 1) // 2, MANY // 2))
        self.assert_counted(2, [(1, 0)], (MANY, 2), (MANY // 2 + 1, MANY // 2 + 2))
        tokens = (MANY, 3, 0, MANY ** 3)
        total = sum(tokens)
        self.assert_counted(4, COUNTS_FOUR, tokens, tuple((total - k + 3) // 4 for k in range(4)))

    def test_all_tokens_come_out(self):
        for many in (1, 5, 40, 400):
            network = Network(12, scattered(12, many))
            tokens = tuple(MANY * k % (k * k * 10 ** 20 + 1) for k in range(12))
            self.assertEqual(sum(counted(network, tokens)), sum(tokens))

    def test_each_token_alone(self):
        samples = all_networks(3, 3)[::2]
        samples += [Network(4, scattered(4, many, many)) for many in range(10)] + [Network(4, COUNTS_FOUR)]
        for network in samples:
            for tokens in list(product((0, 1, 2, 5), repeat=network.wires))[::1 + network.wires]:
                told = counted_as_told(network, tokens)
                self.assert_counted(network.wires, network.comparers, tokens, told)

    def test_the_arguments_stay(self):
        network = Network(4, COUNTS_FOUR)
        self.assertEqual(counted(network, (1, 2, 3, 4)), counted(network, (1, 2, 3, 4)))
        self.assertEqual((network.wires, network.comparers), (4, tuple(COUNTS_FOUR)))


class Counting(unittest.TestCase):

    def assert_counts(self, network):
        found = counting(network)
        self.assertEqual(found, (True, None), network.comparers)
        self.assertIs(type(found), tuple)
        self.assertIs(found[0], True)

    def assert_does_not_count(self, network):
        found = counting(network)
        self.assertIs(type(found), tuple)
        self.assertEqual(len(found), 2)
        self.assertIs(found[0], False)
        tokens = found[1]
        self.assertIs(type(tokens), tuple)
        self.assertEqual(len(tokens), network.wires)
        for number in tokens:
            self.assertIs(type(number), int)
            self.assertGreaterEqual(number, 0)
        self.assertFalse(is_step(counted_as_told(network, tokens)))

    def test_one_wire(self):
        self.assert_counts(Network(1, []))

    def test_two_wires(self):
        self.assert_counts(Network(2, [(0, 1)]))
        self.assert_counts(Network(2, [(0, 1), (0, 1)]))
        self.assert_counts(Network(2, [(1, 0), (0, 1)]))
        self.assert_does_not_count(Network(2, []))
        self.assert_does_not_count(Network(2, [(1, 0)]))
        self.assert_does_not_count(Network(2, [(0, 1), (1, 0)]))

    def test_a_bitonic_one_that_counts(self):
        self.assertLessEqual(2 ** (depth(Network(4, COUNTS_FOUR)) * 4), 5000)
        self.assert_counts(Network(4, COUNTS_FOUR))

    def test_bitonic_merging_alone_does_not_count(self):
        self.assert_counts(bitonic_merging(1))
        self.assert_counts(bitonic_merging(2))
        self.assert_does_not_count(bitonic_merging(4))

    def test_networks_that_sort_but_do_not_count(self):
        self.assert_does_not_count(Network(4, SORTS_FOUR))
        self.assert_does_not_count(batcher(4))
        for pairs in (sorting(3), [(0, 2), (0, 1), (1, 2)], [(0, 1), (0, 2), (1, 2)]):
            self.assert_does_not_count(Network(3, pairs))
        self.assert_does_not_count(bricks(3, 4))
        self.assert_does_not_count(insertion(3))

    def test_no_comparers(self):
        for wires in range(2, 13):
            self.assert_does_not_count(Network(wires, []))

    def test_one_layer_of_many_wires(self):
        for wires in (6, 11, 12):
            pairs = [(i, i + 1) for i in range(0, wires - 1, 2)]
            self.assert_does_not_count(Network(wires, pairs))

    def test_wrong_with_few_tokens_alone(self):
        # Behind this network all of 16 tokens of one wire stand even; a single one stands wrong.
        turned = renamed(Network(4, COUNTS_FOUR), (1, 0, 2, 3))
        for wire in range(4):
            tokens = tuple(16 if at == wire else 0 for at in range(4))
            self.assertEqual(counted(turned, tokens), (4, 4, 4, 4))
        self.assert_does_not_count(turned)

    def test_wrong_with_many_tokens_alone(self):
        # With less than two tokens on each wire all is well; two on the last one stay together.
        network = Network(2, [])
        self.assertEqual(depth(network), 0)
        self.assert_does_not_count(network)

    def test_against_all_rows_with_few_tokens(self):
        told = []
        for network in all_networks(2, 4) + all_networks(3, 3) + all_networks(3, 4)[::9]:
            if 2 ** (depth(network) * network.wires) <= 5000:
                told.append(counts_few(network, 5))
                if told[-1]:
                    self.assert_counts(network)
                else:
                    self.assert_does_not_count(network)
        self.assertEqual(set(told), {True, False})

    def test_four_wires_against_all_rows_with_few_tokens(self):
        samples = [Network(4, COUNTS_FOUR[:at] + COUNTS_FOUR[at + 1:]) for at in range(6)]
        samples += [renamed(Network(4, COUNTS_FOUR), names) for names in ((0, 1, 3, 2), (3, 2, 1, 0), (1, 0, 3, 2))]
        samples += [Network(4, COUNTS_FOUR), Network(4, SORTS_FOUR), Network(4, COUNTS_FOUR[:4] + COUNTS_FOUR[5:])]
        samples += [Network(4, COUNTS_FOUR[:at] + [COUNTS_FOUR[at][::-1]] + COUNTS_FOUR[at + 1:]) for at in range(6)]
        samples += [Network(4, [(2, 3), (0, 1), (1, 2), (0, 3), (2, 3), (0, 1)])]
        told = []
        for network in samples:
            self.assertLessEqual(2 ** (depth(network) * 4), 5000)
            told.append(counts_few(network, 4))
            if told[-1]:
                self.assert_counts(network)
            else:
                self.assert_does_not_count(network)
        self.assertEqual(set(told), {True, False})

    def test_a_standard_network_that_counts_sorts(self):
        samples = [network for network in all_networks(2, 3) if network.is_standard]
        samples += [Network(4, COUNTS_FOUR), Network(1, []), widened(Network(2, [(0, 1)]), 3, 1)]
        samples.append(joined(Network(2, [(0, 1)]), Network(2, [(0, 1)])))
        for network in samples:
            if counting(network)[0]:
                for row in product((0, 1), repeat=network.wires):
                    self.assertEqual(network.run(row), tuple(sorted(row)))

    def test_called_again_it_gives_the_same(self):
        for network in (Network(4, SORTS_FOUR), Network(4, COUNTS_FOUR), Network(12, [])):
            before = (network.wires, network.comparers)
            self.assertEqual(counting(network), counting(network))
            self.assertEqual((network.wires, network.comparers), before)

    def test_somewhat_beyond_the_limits(self):
        self.assert_counts(Network(4, [(0, 1)] + COUNTS_FOUR))
        self.assert_does_not_count(Network(13, []))


if __name__ == "__main__":
    unittest.main()
