"""What the document promises of the whole program, asked of every function of the interface."""

import copy
import unittest
from itertools import product

from neededrows.adjacent import missing, sorts_adjacent
from neededrows.alike import parted, straight
from neededrows.builders import batcher, bitonic_merging, bricks, bubbles, insertion, merging
from neededrows.counting import counted, counting
from neededrows.distance import early, late, pruned, shortest
from neededrows.errors import InvalidNetwork, InvalidText, NetworkError
from neededrows.fewest import all_layers, fewest, fewest_layers, led
from neededrows.forms import by_sets, idle, sets, trimmed
from neededrows.judge import takes_fewest, takes_layers
from neededrows.needed import does, needed
from neededrows.network import Network, depth, joined, layers, mirrored, renamed, widened
from neededrows.rows import is_sorted, noughts, plain_rows
from neededrows.switches import settings, switched, switches
from neededrows.tasks import asked, right
from neededrows.texts import read, write
from neededrows.witness import exact, witness
from tests.samples import SORTING_FOUR, all_tasks, scattered, unsorted_plain_rows
from tests.test_interface import FUNCTIONS

FOUR = Network(4, SORTING_FOUR)
THREE = Network(3, [(0, 1), (1, 2)])
TURNED = Network(4, [(3, 0), (1, 2), (2, 1), (0, 3)])

# At least one call of each function, by the kind of its result.
TELLING = [
    (is_sorted, ((1, 2, 2),)),
    (is_sorted, ((2, 1),)),
    (asked, (4, ("merge", 2), (1, 3, 0, 2))),
    (asked, (4, ("near", 1), (3, 1, 0, 2))),
    (right, (("select", 2), (4, 3, 2, 1), (2, 1, 4, 3))),
    (right, (("sort",), (1, 0), (1, 0))),
    (sorts_adjacent, (insertion(5),)),
    (sorts_adjacent, (THREE,)),
    (takes_fewest, (3,) + fewest(3)),
    (takes_fewest, (3, 2, fewest(3)[1])),
    (takes_layers, (4,) + fewest_layers(4)),
    (takes_layers, (4,) + fewest(4)),
]
TELLING_PAIRS = [
    (does, (FOUR, ("sort",))),
    (does, (THREE, ("sort",))),
    (counting, (Network(2, [(0, 1)]),)),
    (counting, (THREE,)),
]
SETTINGS = [(settings, ((3, 1, 0, 2),)), (settings, ((0,),))]
OTHERS = [
    (mirrored, (TURNED,)),
    (renamed, (FOUR, (1, 2, 3, 0))),
    (joined, (FOUR, TURNED)),
    (widened, (THREE, 6, 2)),
    (layers, (FOUR,)),
    (depth, (FOUR,)),
    (plain_rows, (3,)),
    (noughts, ((0, 1, 0),)),
    (needed, (4, ("ranks", (1, 2)))),
    (witness, ((1, 0, 1),)),
    (exact, (THREE, (1, 1, 0))),
    (exact, (FOUR, (1, 1, 0, 0))),
    (parted, (FOUR, TURNED)),
    (parted, (FOUR, batcher(4))),
    (straight, (TURNED,)),
    (sets, (FOUR, 1)),
    (by_sets, ([(0, 1), (2,)], (5, 7, 6))),
    (idle, (joined(FOUR, FOUR),)),
    (trimmed, (joined(FOUR, FOUR),)),
    (missing, (5, 2)),
    (insertion, (4,)),
    (bubbles, (4,)),
    (bricks, (4, 3)),
    (merging, (2, 3)),
    (batcher, (6,)),
    (bitonic_merging, (4,)),
    (late, (THREE,)),
    (early, (THREE,)),
    (pruned, (TURNED, (1, 2))),
    (shortest, (Network(3, SORTING_FOUR[:1] * 3),)),
    (switched, ((5, 6, 7), [(0, 1), (1, 2)], (True, False))),
    (switches, (5,)),
    (counted, (FOUR, (1, 0, 1, 10 ** 40))),
    (fewest, (3,)),
    (fewest, (1,)),
    (fewest_layers, (4,)),
    (all_layers, (4,)),
    (led, (((0, 1), (1, 0), (1, 1)), [(0, 1)])),
    (write, (FOUR,)),
    (read, ("4: 0-1 2-3",)),
]
ALL = TELLING + TELLING_PAIRS + SETTINGS + OTHERS


def plainly(value):
    """The value with the fields of networks in their place, so that all of it can be looked at."""
    if isinstance(value, Network):
        return ["network", plainly(value.wires), plainly(value.comparers)]
    if isinstance(value, (list, tuple)):
        return type(value)(plainly(part) for part in value)
    return value


def parts_of(value):
    """All that a value contains, however deep."""
    value = plainly(value)
    if isinstance(value, (list, tuple)):
        return [inner for part in value for inner in parts_of(part)]
    return [value]


def lists_in(value):
    found = [value] if isinstance(value, list) else []
    if isinstance(value, (list, tuple)):
        for part in value:
            found.extend(lists_in(part))
    return found


class EveryFunction(unittest.TestCase):

    def test_each_is_called_here(self):
        called = {(function.__module__, function.__name__) for function, _ in ALL}
        told = {("neededrows." + module, name) for module, names in FUNCTIONS.items() for name in names}
        self.assertEqual(called, told)

    def test_no_argument_changes(self):
        for function, arguments in ALL:
            before = copy.deepcopy(plainly(arguments))
            function(*arguments)
            self.assertEqual(plainly(arguments), before, function.__name__)

    def test_called_again_it_gives_the_same(self):
        for function, arguments in ALL:
            first = plainly(function(*arguments))
            self.assertEqual(plainly(function(*arguments)), first, function.__name__)
            self.assertEqual(plainly(function(*copy.deepcopy(arguments))), first, function.__name__)

    def test_lists_are_new_at_each_call(self):
        for function, arguments in ALL:
            first = function(*arguments)
            told = copy.deepcopy(plainly(first))
            given = [id(part) for part in lists_in(arguments)]
            for found in lists_in(first):
                self.assertNotIn(id(found), given)
                found.append("more")
                found.reverse()
            self.assertEqual(plainly(function(*arguments)), told, function.__name__)

    def test_results_that_tell_are_true_or_false(self):
        for function, arguments in TELLING:
            self.assertIs(type(function(*arguments)), bool, function.__name__)
        for function, arguments in TELLING_PAIRS:
            found = function(*arguments)
            self.assertIs(type(found), tuple)
            self.assertEqual(len(found), 2)
            self.assertIs(type(found[0]), bool, function.__name__)
        for function, arguments in SETTINGS:
            for is_set in function(*arguments):
                self.assertIs(type(is_set), bool)
        self.assertIs(type(FOUR.is_standard), bool)

    def test_numbers_are_never_true_or_false(self):
        for function, arguments in OTHERS:
            for part in parts_of(function(*arguments)):
                self.assertIsNot(type(part), bool, function.__name__)
        for function, arguments in TELLING_PAIRS:
            for part in parts_of(function(*arguments)[1]):
                self.assertIsNot(type(part), bool, function.__name__)

    def test_a_tuple_may_be_passed_for_a_list(self):
        for function, arguments in ALL:
            if lists_in(arguments):
                others = [tuple(part) if isinstance(part, list) else part for part in arguments]
                self.assertEqual(plainly(function(*others)), plainly(function(*arguments)))
        self.assertEqual(Network(2, ((0, 1),)), Network(2, [(0, 1)]))

    def test_calls_do_not_touch_each_other(self):
        told = [plainly(function(*arguments)) for function, arguments in ALL]
        again = [plainly(function(*arguments)) for function, arguments in ALL[::-1]]
        self.assertEqual(again[::-1], told)


class Errors(unittest.TestCase):

    def test_all_errors_are_of_the_two_kinds(self):
        for wrong in ("", "2: 0-0", "13:"):
            with self.assertRaises(InvalidText):
                read(wrong)
        for wires, pairs in ((0, []), (2, [(0, 2)]), (2, [(1, 1)])):
            with self.assertRaises(InvalidNetwork):
                Network(wires, pairs)
        self.assertEqual(sorted(kind.__name__ for kind in NetworkError.__subclasses__()), ["InvalidNetwork", "InvalidText"])

    def test_a_call_that_raises_an_error_changes_nothing(self):
        pairs = [(0, 1), (0, 5)]
        with self.assertRaises(InvalidNetwork):
            Network(2, pairs)
        self.assertEqual(pairs, [(0, 1), (0, 5)])
        with self.assertRaises(InvalidText):
            read("4: 0-1 4-0")
        told = [plainly(function(*arguments)) for function, arguments in ALL]
        with self.assertRaises(InvalidText):
            read("4: 0-1 4-0")
        self.assertEqual([plainly(function(*arguments)) for function, arguments in ALL], told)


class MainPromise(unittest.TestCase):

    def networks(self):
        made = [insertion(4), bubbles(4), bricks(4, 4), bricks(4, 3), batcher(4), merging(2, 2), merging(1, 3)]
        made += [missing(4, 1), missing(4, 2), missing(4, 3), bitonic_merging(4), FOUR, pruned(FOUR, (1,))]
        made += [witness(row) for row in unsorted_plain_rows(4)]
        return made + [straight(Network(4, scattered(4, many, many)))[0] for many in range(8)]

    def test_the_answers_are_right_for_rows_of_numbers(self):
        rows = list(product((-10 ** 40, 0, 3, 10 ** 40), repeat=4))
        for network in self.networks():
            results = [(row, network.run(row)) for row in rows]
            for task in all_tasks(4):
                told = all(right(task, row, result) for row, result in results if asked(4, task, row))
                self.assertIs(does(network, task)[0], told, (network.comparers, task))

    def test_none_of_the_needed_rows_can_be_spared(self):
        for task in all_tasks(4):
            for row in needed(4, task):
                network = witness(row)
                self.assertEqual(does(network, task), (False, row))
                for other in needed(4, task):
                    if other != row:
                        self.assertTrue(right(task, other, network.run(other)))

    def test_each_answer_about_the_fewest_comes_with_a_paper_that_is_taken(self):
        for wires in range(1, 5):
            self.assertIs(takes_fewest(wires, *fewest(wires)), True)
            self.assertIs(takes_layers(wires, *fewest_layers(wires)), True)

    def test_no_other_number_is_taken_with_these_papers(self):
        for wires in range(1, 5):
            for number in range(-1, 9):
                for paper in (fewest(wires)[1], fewest_layers(wires)[1]):
                    self.assertIs(
                        takes_fewest(wires, number, paper), number == fewest(wires)[0] and paper[0] == "fewest"
                    )
                    self.assertIs(
                        takes_layers(wires, number, paper), number == fewest_layers(wires)[0] and paper[0] == "layers"
                    )

    def test_a_network_for_each_answer(self):
        for wires in range(1, 5):
            for found in (fewest(wires), fewest_layers(wires)):
                network = Network(wires, found[1][1])
                self.assertEqual(does(network, ("sort",)), (True, None))
                self.assertEqual((late(network), early(network)), (0, 0))


class PassedOn(unittest.TestCase):
    """Networks that the program makes go into its other functions."""

    def test_through_texts(self):
        for wires in range(1, 13):
            made = [insertion(wires), bubbles(wires), bricks(wires, 40), batcher(wires), mirrored(bubbles(wires))]
            for network in made + [widened(insertion(wires), 12, 12 - wires)]:
                self.assertEqual(read(write(network)), network)

    def test_into_wide_functions(self):
        for wires in range(2, 9):
            network = batcher(wires)
            self.assertIsNone(parted(network, insertion(wires)))
            self.assertEqual(trimmed(joined(network, insertion(wires))), network)
            self.assertEqual(straight(network), (network, tuple(range(wires))))
            self.assertEqual((late(network), early(network)), (0, 0))

    def test_a_network_that_misses_one_exchange(self):
        for wires in range(2, 9):
            for a in range(1, wires):
                network = missing(wires, a)
                self.assertEqual((late(network), early(network)), (1, 1))
                # The numbers below a are noughts: they fail only where a - 1 and a are told apart.
                found = (0,) * (a - 1) + (1, 0) + (1,) * (wires - 1 - a)
                falling = tuple(0 if number < a else 1 for number in range(wires - 1, -1, -1))
                self.assertEqual(network.run(falling), found)

    def test_shortest_of_what_is_pruned(self):
        for wanted in ((0,), (1,), (2,), (0, 1), (0, 2), (1, 2)):
            network = pruned(insertion(3), wanted)
            found = shortest(network)
            self.assertIsNone(parted(found, network))
            self.assertLessEqual(len(found.comparers), len(network.comparers))

    def test_a_bitonic_row_is_what_two_sorted_halves_make(self):
        # Sort one half upwards, one downwards, and merge what rises and falls.
        half = batcher(4)
        downwards = renamed(half, (3, 2, 1, 0))
        both = joined(widened(half, 8, 0), widened(downwards, 8, 4))
        network = joined(both, bitonic_merging(8))
        standard, names = straight(network)
        self.assertEqual(names, tuple(range(8)))
        self.assertEqual(does(standard, ("sort",)), (True, None))


if __name__ == "__main__":
    unittest.main()
