"""The needed rows of a task, and whether a network does it."""

import unittest
from itertools import product

from neededrows.needed import does, needed
from neededrows.network import Network
from neededrows.tasks import asked, right
from tests.samples import (
    SORTING_FOUR,
    all_tasks,
    made_standard,
    scattered,
    sorting,
    unsorted_plain_rows,
    without,
)

# A merging network for two and two, and one for bitonic rows, with the least comparers.
MERGING_FOUR = [(0, 2), (1, 3), (1, 2)]
BITONIC_FOUR = [(0, 2), (1, 3), (0, 1), (2, 3)]
MERGING_EIGHT = [(0, 4), (1, 5), (2, 6), (3, 7), (2, 4), (3, 5), (1, 2), (3, 4), (5, 6)]


def has_sorted_parts(row, sizes):
    starts = [sum(sizes[:k]) for k in range(len(sizes))]
    return all((1, 0) not in zip(row[a:a + size], row[a + 1:a + size]) for a, size in zip(starts, sizes))


def is_near(row, d):
    """Noughts belong onto the first wires: how far is each number from where it may stand?"""
    z = row.count(0)
    return all(k - (z - 1) <= d if number == 0 else z - k <= d for k, number in enumerate(row))


def is_bitonic(row):
    """Around a circle, the numbers change at most twice."""
    return sum(row[k] != row[k - 1] for k in range(len(row))) <= 2


def needed_as_told(wires, task):
    """The needed rows by the words of the document, for plain rows alone."""
    kind, numbers = task[0], task[1:]
    tests = {
        "sort": lambda row: True,
        "merge": lambda row, p: has_sorted_parts(row, (p, wires - p)),
        "parts": has_sorted_parts,
        "near": is_near,
        "bitonic": is_bitonic,
        "select": lambda row, k: row.count(0) == k,
        "ranks": lambda row, wanted: any(row.count(0) in (k, k + 1) for k in wanted),
    }
    return [row for row in unsorted_plain_rows(wires) if tests[kind](row, *numbers)]


class NeededRows(unittest.TestCase):

    def test_sort(self):
        self.assertEqual(needed(2, ("sort",)), [(1, 0)])
        self.assertEqual(needed(3, ("sort",)), [(0, 1, 0), (1, 0, 0), (1, 0, 1), (1, 1, 0)])
        for wires in range(1, 9):
            self.assertEqual(len(needed(wires, ("sort",))), 2 ** wires - wires - 1)

    def test_merge(self):
        self.assertEqual(
            needed(4, ("merge", 2)),
            [(0, 1, 0, 0), (0, 1, 0, 1), (1, 1, 0, 0), (1, 1, 0, 1)],
        )
        self.assertEqual(needed(3, ("merge", 1)), [(1, 0, 0), (1, 0, 1)])
        self.assertEqual(needed(3, ("merge", 2)), [(0, 1, 0), (1, 1, 0)])

    def test_the_number_of_rows_for_merge(self):
        for wires in range(2, 9):
            for p in range(1, wires):
                self.assertEqual(len(needed(wires, ("merge", p))), p * (wires - p))

    def test_parts(self):
        self.assertEqual(needed(4, ("parts", (4,))), [])
        self.assertEqual(needed(4, ("parts", (1, 1, 1, 1))), needed(4, ("sort",)))
        self.assertEqual(needed(4, ("parts", (1, 3))), [(1, 0, 0, 0), (1, 0, 0, 1), (1, 0, 1, 1)])
        self.assertEqual(
            needed(4, ("parts", (2, 1, 1))),
            [(0, 0, 1, 0), (0, 1, 0, 0), (0, 1, 0, 1), (0, 1, 1, 0), (1, 1, 0, 0), (1, 1, 0, 1), (1, 1, 1, 0)],
        )

    def test_near(self):
        self.assertEqual(needed(4, ("near", 0)), [])
        self.assertEqual(needed(4, ("near", 1)), [(0, 0, 1, 0), (0, 1, 0, 1), (1, 0, 1, 1)])
        self.assertEqual(needed(4, ("near", 3)), needed(4, ("sort",)))

    def test_bitonic(self):
        self.assertEqual(needed(3, ("bitonic",)), needed(3, ("sort",)))
        circling = {(0, 1, 0, 1), (1, 0, 1, 0)}
        self.assertEqual(
            needed(4, ("bitonic",)),
            [row for row in needed(4, ("sort",)) if row not in circling],
        )

    def test_select(self):
        self.assertEqual(needed(3, ("select", 1)), [(1, 0, 1), (1, 1, 0)])
        self.assertEqual(needed(3, ("select", 2)), [(0, 1, 0), (1, 0, 0)])
        self.assertEqual(
            needed(4, ("select", 2)),
            [(0, 1, 0, 1), (0, 1, 1, 0), (1, 0, 0, 1), (1, 0, 1, 0), (1, 1, 0, 0)],
        )

    def test_ranks(self):
        self.assertEqual(needed(3, ("ranks", (0,))), [(1, 0, 1), (1, 1, 0)])
        self.assertEqual(needed(3, ("ranks", (1,))), needed(3, ("sort",)))
        self.assertEqual(needed(3, ("ranks", (2,))), [(0, 1, 0), (1, 0, 0)])
        self.assertEqual(needed(3, ("ranks", (0, 2))), needed(3, ("sort",)))
        self.assertEqual({row.count(0) for row in needed(8, ("ranks", (1, 5)))}, {1, 2, 5, 6})

    def test_each_task_as_the_document_tells(self):
        for wires in range(1, 9):
            for task in all_tasks(wires):
                self.assertEqual(needed(wires, task), needed_as_told(wires, task), (wires, task))

    def test_ascending_and_none_twice(self):
        for wires in range(1, 7):
            for task in all_tasks(wires):
                rows = needed(wires, task)
                self.assertEqual(rows, sorted(set(rows)))

    def test_no_rows_for_one_wire(self):
        for task in all_tasks(1):
            self.assertEqual(needed(1, task), [])

    def test_the_kinds_of_the_parts(self):
        for task in all_tasks(4):
            rows = needed(4, task)
            self.assertIs(type(rows), list)
            for row in rows:
                self.assertIs(type(row), tuple)
                for number in row:
                    self.assertIs(type(number), int)

    def test_a_new_list_at_each_call(self):
        for task in all_tasks(4):
            first = needed(4, task)
            told = list(first)
            first.append((9, 9, 9, 9))
            first.reverse()
            self.assertEqual(needed(4, task), told)

    def test_somewhat_beyond_the_limits(self):
        for task in (("merge", 0), ("merge", 3), ("near", 3), ("near", 7), ("select", 0), ("select", 3)):
            self.assertIs(type(needed(3, task)), list)
        self.assertEqual(len(needed(10, ("merge", 4))), 24)


class Does(unittest.TestCase):

    def assert_does(self, wires, comparers, task):
        found = does(Network(wires, comparers), task)
        self.assertEqual(found, (True, None), (wires, comparers, task))
        self.assertIs(type(found), tuple)
        self.assertIs(found[0], True)

    def assert_fails(self, wires, comparers, task, row):
        found = does(Network(wires, comparers), task)
        self.assertEqual(found, (False, row), (wires, comparers, task))
        self.assertIs(type(found), tuple)
        self.assertIs(found[0], False)
        self.assertIs(type(found[1]), tuple)

    def test_a_sorting_network_does_each_task(self):
        for wires in range(1, 7):
            for task in all_tasks(wires):
                self.assert_does(wires, sorting(wires), task)
        for task in all_tasks(4):
            self.assert_does(4, SORTING_FOUR, task)

    def test_sort(self):
        self.assert_does(8, sorting(8), ("sort",))
        self.assert_fails(4, without(SORTING_FOUR, 4), ("sort",), (0, 1, 0, 1))
        self.assert_fails(4, without(SORTING_FOUR, 0), ("sort",), (1, 0, 0, 0))
        self.assert_fails(4, without(SORTING_FOUR, 1), ("sort",), (0, 0, 1, 0))

    def test_merge(self):
        self.assert_does(4, MERGING_FOUR, ("merge", 2))
        self.assert_fails(4, MERGING_FOUR[:2], ("merge", 2), (0, 1, 0, 1))
        self.assert_fails(4, MERGING_FOUR[1:], ("merge", 2), (1, 1, 0, 0))
        self.assert_fails(4, without(MERGING_FOUR, 1), ("merge", 2), (0, 1, 0, 0))
        self.assert_fails(4, MERGING_FOUR, ("sort",), (0, 0, 1, 0))
        self.assert_does(8, MERGING_EIGHT, ("merge", 4))
        for at in range(len(MERGING_EIGHT)):
            self.assertIs(does(Network(8, without(MERGING_EIGHT, at)), ("merge", 4))[0], False)

    def test_parts(self):
        front_sorted = [(0, 1), (2, 3)] + MERGING_FOUR
        self.assert_does(4, front_sorted[1:], ("parts", (2, 1, 1)))
        self.assert_fails(4, front_sorted[1:], ("parts", (1, 1, 2)), (1, 0, 0, 0))
        self.assert_fails(4, front_sorted[2:], ("parts", (2, 1, 1)), (0, 0, 1, 0))
        self.assert_does(4, [], ("parts", (4,)))

    def test_near(self):
        one_away = [(0, 1), (2, 3), (1, 2)]
        self.assert_does(4, one_away, ("near", 1))
        self.assert_fails(4, one_away[:2], ("near", 1), (0, 1, 0, 1))
        self.assert_fails(4, one_away[1:], ("near", 1), (1, 0, 1, 1))
        self.assert_fails(4, one_away, ("near", 2), (0, 1, 0, 0))
        self.assert_does(4, [], ("near", 0))

    def test_bitonic(self):
        self.assert_does(4, BITONIC_FOUR, ("bitonic",))
        self.assert_fails(4, BITONIC_FOUR, ("sort",), (0, 1, 0, 1))
        self.assert_fails(4, BITONIC_FOUR[1:], ("bitonic",), (1, 0, 0, 0))
        self.assert_fails(4, BITONIC_FOUR[:3], ("bitonic",), (0, 0, 1, 0))
        self.assert_fails(4, without(BITONIC_FOUR, 2), ("bitonic",), (1, 0, 1, 1))

    def test_select(self):
        least_first = [(2, 3), (1, 2), (0, 1)]
        self.assert_does(4, least_first, ("select", 1))
        self.assert_fails(4, least_first, ("select", 2), (1, 0, 0, 1))
        self.assert_fails(4, least_first[1:], ("select", 1), (1, 1, 1, 0))
        self.assert_fails(4, least_first[:2], ("select", 1), (1, 0, 1, 1))
        self.assert_does(4, SORTING_FOUR[:4] + [(1, 2)], ("select", 2))
        self.assert_fails(4, SORTING_FOUR[:4], ("select", 2), (0, 1, 0, 1))

    def test_ranks(self):
        ends = SORTING_FOUR[:4]
        self.assert_does(4, ends, ("ranks", (0,)))
        self.assert_does(4, ends, ("ranks", (0, 3)))
        self.assert_fails(4, ends, ("ranks", (1,)), (0, 1, 0, 1))
        self.assert_fails(4, ends, ("ranks", (0, 2)), (0, 1, 0, 1))
        self.assert_fails(4, without(ends, 3), ("ranks", (0, 3)), (0, 1, 0, 0))
        self.assert_fails(4, without(ends, 2), ("ranks", (0, 3)), (1, 1, 0, 1))
        self.assert_does(4, without(ends, 3), ("ranks", (0,)))

    def test_no_comparers(self):
        for wires in range(2, 9):
            for task in all_tasks(wires)[::1 + wires // 3]:
                rows = needed_as_told(wires, task)
                wrong = [row for row in rows if not right(task, row, row)]
                expected = (False, wrong[0]) if wrong else (True, None)
                self.assertEqual(does(Network(wires, []), task), expected)
        self.assert_fails(3, [], ("sort",), (0, 1, 0))
        self.assert_fails(3, [], ("ranks", (0,)), (1, 0, 1))
        self.assert_fails(8, [], ("select", 1), (1, 0, 1, 1, 1, 1, 1, 1))

    def test_one_wire(self):
        for task in all_tasks(1):
            self.assert_does(1, [], task)

    def test_the_first_needed_row_that_does_not_do_right(self):
        for start in range(6):
            network = Network(5, made_standard(scattered(5, 2 * start + 1, start)))
            for task in all_tasks(5):
                wrong = [row for row in needed_as_told(5, task) if not right(task, row, network.run(row))]
                expected = (False, wrong[0]) if wrong else (True, None)
                self.assertEqual(does(network, task), expected, (network.comparers, task))

    def test_a_comparer_left_out_of_a_sorting_network(self):
        for wires in range(2, 9):
            pairs = sorting(wires)
            for at in range(0, len(pairs), 1 + wires // 3):
                network = Network(wires, without(pairs, at))
                wrong = [row for row in unsorted_plain_rows(wires) if list(network.run(row)) != sorted(row)]
                self.assertEqual(does(network, ("sort",)), (False, wrong[0]))

    def test_a_task_is_done_exactly_if_every_row_that_is_asked_does_right(self):
        samples = [Network(4, without(SORTING_FOUR, at)) for at in range(5)]
        samples += [Network(4, pairs) for pairs in (MERGING_FOUR, BITONIC_FOUR, [(0, 1), (2, 3), (1, 2)], [])]
        samples += [Network(4, made_standard(scattered(4, 3 + start % 3, start))) for start in range(12)]
        samples += [Network(3, list(pairs)) for pairs in product([(0, 1), (0, 2), (1, 2)], repeat=2)]
        for network in samples:
            rows = list(product(range(network.wires), repeat=network.wires))
            for task in all_tasks(network.wires):
                told = all(
                    right(task, row, network.run(row)) for row in rows if asked(network.wires, task, row)
                )
                self.assertIs(does(network, task)[0], told, (network.comparers, task))

    def test_the_bounds(self):
        pairs = made_standard(scattered(8, 120 - 28, 5)) + sorting(8)
        self.assert_does(8, pairs, ("sort",))
        self.assert_fails(8, [(0, 1)] * 120, ("sort",), (0, 0, 0, 0, 0, 0, 1, 0))

    def test_called_again_it_gives_the_same_and_changes_nothing(self):
        network = Network(4, BITONIC_FOUR)
        for task in all_tasks(4):
            self.assertEqual(does(network, task), does(network, task))
        self.assertEqual((network.wires, network.comparers), (4, tuple(BITONIC_FOUR)))


if __name__ == "__main__":
    unittest.main()
