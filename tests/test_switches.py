"""Switches and their settings for every order."""

import unittest
from itertools import permutations, product

from neededrows.switches import settings, switched, switches

# The sums of c(m) for 1 to 12 wires, by hand.
MOST_SWITCHES = [0, 1, 3, 5, 8, 11, 14, 17, 21, 25, 29, 33]
HUGE = 10 ** 40


def most_switches(wires):
    """The sum of c(m) by the words of the document."""
    return sum(min(c for c in range(10) if 2 ** c >= m) for m in range(1, wires + 1))


def drawn_orders(wires, many, start=1):
    """Scattered orders, the same at each call."""
    number, found = start, []
    for _ in range(many):
        left, order = list(range(wires)), []
        while left:
            number = (number * 1103515245 + 12345) % 2 ** 31
            order.append(left.pop((number >> 12) % len(left)))
        found.append(tuple(order))
    return found


def plain_orders(wires):
    """Orders with much regularity: shifted, turned, neighbours exchanged, halves exchanged."""
    own = tuple(range(wires))
    shifted = [own[k:] + own[:k] for k in range(wires)]
    neighbours = tuple(w ^ 1 if w ^ 1 < wires else w for w in own)
    ends = own[-1:] + own[1:-1] + own[:1] if wires > 1 else own
    return shifted + [order[::-1] for order in shifted] + [neighbours, ends, own[::2] + own[1::2]]


class Switched(unittest.TestCase):

    PAIRS = [(0, 1), (1, 2), (0, 2)]

    def assert_switched(self, row, pairs, chosen, told):
        found = switched(row, pairs, chosen)
        self.assertEqual(found, told)
        self.assertIs(type(found), tuple)

    def test_all_set(self):
        self.assert_switched((7, 8, 9), self.PAIRS, (True, True, True), (7, 9, 8))
        self.assert_switched((7, 8), [(0, 1)], (True,), (8, 7))

    def test_none_set(self):
        self.assert_switched((7, 8, 9), self.PAIRS, (False, False, False), (7, 8, 9))
        self.assert_switched((9, 8, 7), self.PAIRS, (False, False, False), (9, 8, 7))

    def test_some_set(self):
        self.assert_switched((7, 8, 9), self.PAIRS, (True, False, False), (8, 7, 9))
        self.assert_switched((7, 8, 9), self.PAIRS, (True, True, False), (8, 9, 7))
        self.assert_switched((7, 8, 9), self.PAIRS, (False, False, True), (9, 8, 7))
        self.assert_switched((7, 8, 9), self.PAIRS, (False, True, True), (8, 9, 7))

    def test_no_switches(self):
        self.assert_switched((7, 8, 9), [], (), (7, 8, 9))
        self.assert_switched((5,), [], (), (5,))

    def test_one_behind_the_other(self):
        self.assert_switched((1, 2, 3, 4), [(0, 1), (1, 2), (2, 3)], (True,) * 3, (2, 3, 4, 1))
        self.assert_switched((1, 2, 3, 4), [(2, 3), (1, 2), (0, 1)], (True,) * 3, (4, 1, 2, 3))

    def test_the_same_switch_twice(self):
        self.assert_switched((1, 2), [(0, 1), (0, 1)], (True, True), (1, 2))
        self.assert_switched((1, 2), [(0, 1), (0, 1)], (False, True), (2, 1))

    def test_equal_negative_and_very_large_numbers(self):
        self.assert_switched((3, 3, -3), self.PAIRS, (True, True, True), (3, -3, 3))
        self.assert_switched((HUGE, -HUGE, HUGE), self.PAIRS, (True, False, True), (HUGE, HUGE, -HUGE))
        self.assert_switched((0, 0, 0), self.PAIRS, (True, False, True), (0, 0, 0))
        self.assert_switched((-1, -1), [(0, 1)], (True,), (-1, -1))

    def test_greater_or_smaller_makes_no_difference(self):
        for row in product((-1, 0, HUGE), repeat=3):
            for chosen in product((True, False), repeat=3):
                told = list(row)
                for (i, j), is_set in zip(self.PAIRS, chosen):
                    if is_set is True:
                        told[i], told[j] = told[j], told[i]
                self.assert_switched(row, self.PAIRS, chosen, tuple(told))

    def test_the_arguments_stay_and_a_tuple_of_switches_does(self):
        pairs = list(self.PAIRS)
        first = switched((7, 8, 9), pairs, (True, False, True))
        self.assertEqual(pairs, self.PAIRS)
        self.assertEqual(switched((7, 8, 9), tuple(pairs), (True, False, True)), first)
        self.assertEqual(switched((7, 8, 9), pairs, (True, False, True)), first)


class Switches(unittest.TestCase):

    def test_each_is_a_pair_of_wires_the_lower_one_first(self):
        for wires in range(1, 13):
            found = switches(wires)
            self.assertIs(type(found), list)
            for pair in found:
                self.assertIs(type(pair), tuple)
                i, j = pair
                self.assertIs(type(i), int)
                self.assertIs(type(j), int)
                self.assertTrue(0 <= i < j < wires)

    def test_their_number(self):
        for wires in range(1, 13):
            self.assertEqual(most_switches(wires), MOST_SWITCHES[wires - 1])
            self.assertLessEqual(len(switches(wires)), MOST_SWITCHES[wires - 1])

    def test_one_wire_and_two_wires(self):
        self.assertEqual(switches(1), [])
        self.assertEqual(switches(2), [(0, 1)])

    def test_a_new_list_at_each_call(self):
        for wires in range(1, 13):
            first = switches(wires)
            told = list(first)
            first.append((0, 1))
            first.reverse()
            self.assertEqual(switches(wires), told)


class Settings(unittest.TestCase):

    def assert_brought(self, order):
        wires = len(order)
        found, pairs = settings(order), switches(wires)
        self.assertIs(type(found), tuple)
        self.assertEqual(len(found), len(pairs))
        for is_set in found:
            self.assertIs(type(is_set), bool)
        result = switched(tuple(range(wires)), pairs, found)
        for wire in range(wires):
            self.assertEqual(result[order[wire]], wire, order)

    def test_one_wire_and_two_wires(self):
        self.assertEqual(settings((0,)), ())
        self.assertEqual(settings((0, 1)), (False,))
        self.assertEqual(settings((1, 0)), (True,))

    def test_every_order(self):
        for wires in range(1, 7):
            for order in permutations(range(wires)):
                self.assert_brought(order)

    def test_more_wires(self):
        for wires in range(7, 13):
            for order in plain_orders(wires) + drawn_orders(wires, 300):
                self.assertEqual(sorted(order), list(range(wires)))
                self.assert_brought(order)

    def test_an_order_is_not_its_reverse(self):
        # The number of the wire 0 comes onto the wire 1, not the one of the wire 1 onto the wire 0.
        order = (1, 2, 0)
        self.assertEqual(switched((10, 11, 12), switches(3), settings(order)), (12, 10, 11))

    def test_rows_of_any_numbers(self):
        for order in drawn_orders(8, 20):
            row = (-HUGE, 3, 3, HUGE, 0, -1, 3, HUGE)
            result = switched(row, switches(8), settings(order))
            self.assertEqual([result[order[wire]] for wire in range(8)], list(row))

    def test_called_again_it_gives_the_same(self):
        for wires in range(1, 13):
            for order in drawn_orders(wires, 5):
                self.assertEqual(settings(order), settings(order))

    def test_somewhat_beyond_the_limits(self):
        for wires in (13, 16, 17):
            self.assertEqual(len(switches(wires)), most_switches(wires))
            for order in drawn_orders(wires, 5):
                self.assert_brought(order)


if __name__ == "__main__":
    unittest.main()
