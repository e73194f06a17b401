"""The seven kinds of task: which rows are asked, and which do right."""

import unittest
from itertools import permutations, product

from neededrows.tasks import asked, right
from tests.samples import HUGE

NUMBERS = (-1, 0, 2)
SORTED_TASKS = (("sort",), ("merge", 2), ("parts", (1, 3)), ("near", 1), ("bitonic",))


def in_order(row):
    return list(row) == sorted(row)


def all_rows(wires):
    """Rows with equal numbers and, up to five wires, all orders of unlike ones."""
    return list(product(NUMBERS, repeat=wires)) + list(permutations(range(wires)))


class AskedTests(unittest.TestCase):

    def assert_asked(self, task, rows):
        for row in rows:
            self.assertIs(asked(len(row), task, row), True, (task, row))

    def assert_not_asked(self, task, rows):
        for row in rows:
            self.assertIs(asked(len(row), task, row), False, (task, row))

    def assert_asked_exactly_if(self, wires, task, told):
        for row in all_rows(wires):
            self.assertIs(asked(wires, task, row), told(row), (task, row))


class AskedEveryRow(AskedTests):

    def test_sort_select_and_ranks_ask_every_row(self):
        for wires in range(1, 6):
            tasks = [("sort",)] + [("select", k) for k in range(1, wires)]
            tasks += [("ranks", (0,)), ("ranks", (wires - 1,)), ("ranks", tuple(range(wires)))]
            for task in tasks:
                self.assert_asked(task, all_rows(wires))

    def test_very_large_and_negative_numbers(self):
        for task in (("sort",), ("select", 1), ("ranks", (0, 2))):
            self.assert_asked(task, [(HUGE, -HUGE, 0), (0, 0, 0), (-1, -1, -2)])


class AskedMerge(AskedTests):

    def test_both_parts_sorted(self):
        self.assert_asked(("merge", 2), [(1, 3, 0, 2), (3, 4, 1, 2), (0, 1, 2, 3), (1, 1, 0, 0)])

    def test_one_part_not_sorted(self):
        self.assert_not_asked(("merge", 2), [(3, 1, 0, 2), (0, 1, 3, 2), (3, 2, 1, 0), (0, 0, 1, 0)])

    def test_unlike_parts(self):
        self.assert_asked(("merge", 1), [(3, 0, 1, 2), (5, 1, 1, 9)])
        self.assert_not_asked(("merge", 1), [(0, 1, 3, 2), (1, 0, 2, 1)])
        self.assert_asked(("merge", 3), [(1, 2, 3, 0), (4, 4, 4, 1)])
        self.assert_not_asked(("merge", 3), [(0, 2, 1, 3), (2, 1, 3, 0)])

    def test_two_wires(self):
        self.assert_asked(("merge", 1), [(0, 1), (1, 0), (2, 2)])

    def test_very_large_and_negative_numbers(self):
        self.assert_asked(("merge", 2), [(-1, HUGE, -HUGE, 0)])
        self.assert_not_asked(("merge", 2), [(HUGE, -HUGE, 0, 1), (-1, -2, 0, 1)])

    def test_as_the_document_tells(self):
        for wires in range(2, 6):
            for p in range(1, wires):
                self.assert_asked_exactly_if(
                    wires, ("merge", p), lambda row: in_order(row[:p]) and in_order(row[p:])
                )


class AskedParts(AskedTests):

    def test_all_parts_sorted(self):
        self.assert_asked(("parts", (2, 1, 2)), [(3, 4, 9, 1, 2), (0, 1, 2, 3, 4), (1, 1, 0, 0, 0)])

    def test_some_part_not_sorted(self):
        self.assert_not_asked(
            ("parts", (2, 1, 2)), [(4, 3, 9, 1, 2), (3, 4, 9, 2, 1), (4, 3, 2, 1, 0), (1, 0, 0, 1, 0)]
        )

    def test_a_middle_part_not_sorted(self):
        self.assert_not_asked(("parts", (1, 3, 1)), [(0, 1, 3, 2, 4), (0, 2, 1, 3, 4)])

    def test_one_part(self):
        self.assert_asked(("parts", (3,)), [(1, 2, 3), (2, 2, 2)])
        self.assert_not_asked(("parts", (3,)), [(1, 3, 2), (2, 1, 1)])
        self.assert_asked(("parts", (1,)), [(7,), (-HUGE,)])

    def test_parts_of_one_number(self):
        for wires in range(1, 6):
            self.assert_asked(("parts", (1,) * wires), all_rows(wires))

    def test_equal_sizes(self):
        self.assert_asked(("parts", (2, 2)), [(2, 3, 0, 1)])
        self.assert_not_asked(("parts", (2, 2)), [(2, 3, 1, 0), (3, 2, 0, 1)])

    def test_very_large_and_negative_numbers(self):
        self.assert_asked(("parts", (2, 2)), [(0, HUGE, -HUGE, -1)])
        self.assert_not_asked(("parts", (2, 2)), [(0, HUGE, -1, -HUGE)])

    def test_as_the_document_tells(self):
        for sizes in ((1,), (2,), (1, 2), (2, 1), (1, 1, 2), (1, 2, 1), (2, 2), (4,), (2, 1, 2), (1, 3, 1)):
            starts = [sum(sizes[:k]) for k in range(len(sizes))]
            self.assert_asked_exactly_if(
                sum(sizes),
                ("parts", sizes),
                lambda row: all(in_order(row[start:start + size]) for start, size in zip(starts, sizes)),
            )


class AskedNear(AskedTests):

    def test_no_place_away_is_sorted(self):
        self.assert_asked(("near", 0), [(1, 2, 3), (1, 1, 2), (5, 5, 5), (4,)])
        self.assert_not_asked(("near", 0), [(2, 1, 3), (1, 3, 2), (2, 1, 1), (3, 2, 1)])

    def test_one_place_away(self):
        self.assert_asked(("near", 1), [(2, 1, 4, 3), (1, 3, 2, 4), (1, 2, 3, 4)])
        self.assert_not_asked(("near", 1), [(3, 1, 2, 4), (2, 3, 1, 4), (4, 2, 3, 1)])

    def test_two_places_away(self):
        self.assert_asked(("near", 2), [(3, 4, 1, 2), (3, 2, 1, 4)])
        self.assert_not_asked(("near", 2), [(4, 2, 3, 1), (2, 3, 4, 1), (4, 1, 2, 3)])

    def test_some_place_of_an_equal_number_is_enough(self):
        # The sorted row is 0, 1, 1, 1: each 1 is at most one place away from some 1.
        self.assert_asked(("near", 1), [(1, 0, 1, 1)])
        self.assert_not_asked(("near", 1), [(1, 1, 0, 1), (1, 1, 1, 0)])
        self.assert_asked(("near", 2), [(1, 1, 0, 1)])
        # The sorted row is 0, 0, 0, 1: the last 0 has a place right before it.
        self.assert_asked(("near", 1), [(0, 0, 1, 0)])
        self.assert_not_asked(("near", 1), [(0, 1, 0, 0)])

    def test_the_farthest_number_allowed(self):
        for wires in range(1, 6):
            self.assert_asked(("near", wires - 1), all_rows(wires))

    def test_very_large_and_negative_numbers(self):
        self.assert_asked(("near", 1), [(-HUGE, HUGE, -1)])
        self.assert_not_asked(("near", 1), [(HUGE, -HUGE, -1)])

    def test_as_the_document_tells(self):
        for wires in range(1, 6):
            for d in range(wires):
                self.assert_asked_exactly_if(wires, ("near", d), lambda row: self.is_near(row, d))

    @staticmethod
    def is_near(row, d):
        wires = range(len(row))
        ordered = sorted(row)
        return all(any(ordered[m] == row[k] and abs(m - k) <= d for m in wires) for k in wires)


class AskedBitonic(AskedTests):

    def test_rising_and_falling(self):
        self.assert_asked(("bitonic",), [(1, 3, 4, 2), (1, 2, 3, 4), (4, 3, 2, 1), (0, 9, 8, 7)])

    def test_equal_neighbours(self):
        self.assert_asked(("bitonic",), [(1, 1, 3, 3, 2, 2), (2, 2, 2), (0, 0, 1), (1, 0, 0), (1, 1, 0, 0, 1)])

    def test_first_numbers_taken_to_the_end(self):
        row = (1, 4, 6, 6, 5, 2)
        self.assert_asked(("bitonic",), [row[k:] + row[:k] for k in range(6)])

    def test_falling_and_then_rising(self):
        self.assert_asked(("bitonic",), [(4, 1, 0, 2), (3, 1, 3), (2, 0, 0, 1)])

    def test_rows_with_two_tops(self):
        self.assert_not_asked(
            ("bitonic",), [(0, 1, 0, 1), (1, 0, 1, 0), (1, 3, 2, 4), (0, 2, 1, 2), (3, 1, 2, 0), (0, 1, 1, 0, 1)]
        )

    def test_one_to_three_wires_ask_every_row(self):
        for wires in (1, 2, 3):
            self.assert_asked(("bitonic",), all_rows(wires))

    def test_very_large_and_negative_numbers(self):
        self.assert_asked(("bitonic",), [(-HUGE, HUGE, 0, -1), (HUGE, -HUGE, -1, 0)])
        self.assert_not_asked(("bitonic",), [(-HUGE, HUGE, -1, 0), (-1, -2, -1, -2)])

    def test_as_the_document_tells(self):
        for wires in range(1, 6):
            found = {
                row[k:] + row[:k]
                for row in all_rows(wires)
                for k in range(wires)
                if any(in_order(row[:top]) and in_order(row[top:][::-1]) for top in range(wires + 1))
            }
            self.assert_asked_exactly_if(wires, ("bitonic",), lambda row: row in found)


class RightTests(unittest.TestCase):

    def assert_right(self, task, row, results):
        for result in results:
            self.assertIs(right(task, row, result), True, (task, row, result))

    def assert_wrong(self, task, row, results):
        for result in results:
            self.assertIs(right(task, row, result), False, (task, row, result))


class RightSorted(RightTests):

    def test_the_sorted_result_alone(self):
        for task in SORTED_TASKS:
            for row in product(NUMBERS, repeat=4):
                for result in set(permutations(row)):
                    self.assertIs(right(task, row, result), in_order(result), (task, row, result))

    def test_whether_the_row_is_asked_is_not_looked_at(self):
        for task in SORTED_TASKS:
            self.assert_right(task, (3, 2, 1, 0), [(0, 1, 2, 3)])
            self.assert_wrong(task, (0, 1, 2, 3), [(3, 2, 1, 0), (0, 2, 1, 3)])
        self.assert_right(("bitonic",), (0, 1, 0, 1), [(0, 0, 1, 1)])
        self.assert_wrong(("merge", 2), (3, 2, 1, 0), [(2, 3, 0, 1)])
        self.assert_wrong(("near", 1), (3, 2, 1, 0), [(1, 0, 3, 2)])
        self.assert_wrong(("parts", (1, 3)), (3, 2, 1, 0), [(3, 0, 1, 2)])

    def test_one_wire(self):
        for task in (("sort",), ("parts", (1,)), ("near", 0), ("bitonic",)):
            self.assert_right(task, (-4,), [(-4,)])

    def test_very_large_and_negative_numbers(self):
        row = (HUGE, -1, -HUGE, HUGE)
        for task in SORTED_TASKS:
            self.assert_right(task, row, [(-HUGE, -1, HUGE, HUGE)])
            self.assert_wrong(task, row, [(-1, -HUGE, HUGE, HUGE), (-HUGE, HUGE, -1, HUGE)])


class RightSelect(RightTests):

    def test_the_order_within_the_sides_is_free(self):
        self.assert_right(("select", 2), (4, 3, 2, 1), [(1, 2, 3, 4), (2, 1, 4, 3), (1, 2, 4, 3)])

    def test_a_smaller_number_behind(self):
        self.assert_wrong(("select", 2), (4, 3, 2, 1), [(1, 3, 2, 4), (4, 3, 2, 1), (1, 4, 3, 2), (3, 2, 1, 4)])

    def test_equal_numbers_on_both_sides(self):
        self.assert_right(("select", 2), (2, 2, 1, 2), [(1, 2, 2, 2), (2, 1, 2, 2)])
        self.assert_wrong(("select", 2), (2, 2, 1, 2), [(2, 2, 1, 2), (2, 2, 2, 1)])
        self.assert_right(("select", 1), (5, 5), [(5, 5)])

    def test_the_least_and_the_greatest_k(self):
        self.assert_right(("select", 1), (3, 2, 1), [(1, 3, 2), (1, 2, 3)])
        self.assert_wrong(("select", 1), (3, 2, 1), [(2, 1, 3), (3, 1, 2)])
        self.assert_right(("select", 2), (3, 2, 1), [(2, 1, 3), (1, 2, 3)])
        self.assert_wrong(("select", 2), (3, 2, 1), [(1, 3, 2), (3, 2, 1)])

    def test_very_large_and_negative_numbers(self):
        row = (HUGE, -1, -HUGE, HUGE)
        self.assert_right(("select", 2), row, [(-1, -HUGE, HUGE, HUGE)])
        self.assert_wrong(("select", 2), row, [(HUGE, -HUGE, -1, HUGE), (-1, HUGE, -HUGE, HUGE)])

    def test_as_the_document_tells(self):
        for wires in range(2, 5):
            for k in range(1, wires):
                for result in all_rows(wires):
                    told = not any(behind < front for front in result[:k] for behind in result[k:])
                    self.assertIs(right(("select", k), result[::-1], result), told, (k, result))


class RightRanks(RightTests):

    def test_the_wanted_wires_alone(self):
        row = (4, 3, 2, 1)
        self.assert_right(("ranks", (1,)), row, [(1, 2, 3, 4), (4, 2, 1, 3), (3, 2, 4, 1)])
        self.assert_wrong(("ranks", (1,)), row, [(2, 1, 3, 4), (1, 3, 2, 4), (4, 3, 2, 1)])

    def test_the_first_and_the_last_wire(self):
        row = (4, 3, 2, 1)
        self.assert_right(("ranks", (0, 3)), row, [(1, 3, 2, 4), (1, 2, 3, 4)])
        self.assert_wrong(("ranks", (0, 3)), row, [(1, 2, 4, 3), (2, 1, 3, 4), (4, 2, 3, 1)])

    def test_all_wires(self):
        row = (3, 1, 2)
        self.assert_right(("ranks", (0, 1, 2)), row, [(1, 2, 3)])
        self.assert_wrong(("ranks", (0, 1, 2)), row, [(1, 3, 2), (2, 1, 3), (3, 2, 1)])

    def test_equal_numbers(self):
        row = (2, 1, 2, 1)
        self.assert_right(("ranks", (2,)), row, [(1, 1, 2, 2), (2, 1, 2, 1), (1, 2, 2, 1)])
        self.assert_wrong(("ranks", (2,)), row, [(2, 2, 1, 1), (1, 2, 1, 2)])

    def test_one_wire(self):
        self.assert_right(("ranks", (0,)), (-9,), [(-9,)])

    def test_very_large_and_negative_numbers(self):
        row = (HUGE, -1, -HUGE)
        self.assert_right(("ranks", (1,)), row, [(HUGE, -1, -HUGE), (-HUGE, -1, HUGE)])
        self.assert_wrong(("ranks", (1,)), row, [(-1, -HUGE, HUGE), (-1, HUGE, -HUGE)])

    def test_as_the_document_tells(self):
        wanted = [(0,), (1,), (3,), (0, 2), (1, 2, 3), (0, 1, 2, 3)]
        for row in product(NUMBERS, repeat=4):
            ordered = sorted(row)
            for result in set(permutations(row)):
                for wires in wanted:
                    told = all(result[k] == ordered[k] for k in wires)
                    self.assertIs(right(("ranks", wires), row, result), told, (wires, row, result))


class SomewhatBeyondTheLimits(unittest.TestCase):

    def test_no_error_is_raised(self):
        row, result = (1, 3, 0, 2), (1, 0, 3, 2)
        beyond = [("merge", 0), ("merge", 4), ("near", 4), ("near", 9), ("select", 0), ("select", 4), ("ranks", ())]
        for task in beyond:
            self.assertIs(type(asked(4, task, row)), bool)
            self.assertIs(type(right(task, row, result)), bool)

    def test_more_wires(self):
        row = tuple(range(14, 0, -1))
        self.assertIs(asked(14, ("bitonic",), row), True)
        self.assertIs(asked(14, ("merge", 7), row), False)
        self.assertIs(right(("ranks", (13,)), row, row[::-1]), True)


class CalledAgain(unittest.TestCase):

    def test_called_again_they_give_the_same(self):
        row, result = (1, 3, 0, 2), (0, 1, 3, 2)
        tasks = SORTED_TASKS + (("select", 2), ("ranks", (0, 1)))
        first = [(asked(4, task, row), right(task, row, result)) for task in tasks]
        again = [(asked(4, task, row), right(task, row, result)) for task in tasks]
        self.assertEqual(first, again)


if __name__ == "__main__":
    unittest.main()
