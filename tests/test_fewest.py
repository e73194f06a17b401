"""The fewest comparers and layers, their papers, states and layers."""

import unittest
from itertools import permutations, product

from neededrows.fewest import all_layers, fewest, fewest_layers, led
from neededrows.network import Network, depth
from neededrows.rows import plain_rows
from tests.papers import (
    LEAST,
    covers_by,
    has_twins,
    layers_of,
    led_by,
    pairs_of,
    plain,
    renamed_by,
    sorts_all,
    steps_of,
    wrong_paper,
)
from tests.samples import SORTING_FOUR, all_pairs, scattered

SEARCHES = (("fewest", fewest), ("layers", fewest_layers))


def numbers_of(value):
    """All numbers in a paper, however deep."""
    if isinstance(value, tuple):
        return [number for part in value for number in numbers_of(part)]
    return [value]


class Led(unittest.TestCase):

    def assert_led(self, state, comparers, told):
        found = led(state, comparers)
        self.assertEqual(found, told)
        self.assertIs(type(found), tuple)
        for row in found:
            self.assertIs(type(row), tuple)
            for number in row:
                self.assertIs(type(number), int)

    def test_a_standard_comparer(self):
        self.assert_led(((0, 1), (1, 0)), [(0, 1)], ((0, 1),))
        self.assert_led(((0, 0, 1), (0, 1, 0), (1, 0, 0)), [(0, 2)], ((0, 0, 1), (0, 1, 0)))

    def test_a_comparer_that_is_not_standard(self):
        self.assert_led(((0, 1), (1, 0)), [(1, 0)], ((1, 0),))
        self.assert_led(((0, 0, 1), (0, 1, 0), (1, 0, 0)), [(2, 0)], ((0, 1, 0), (1, 0, 0)))

    def test_one_behind_the_other(self):
        self.assert_led(((1, 0, 0),), [(0, 1), (1, 2)], ((0, 0, 1),))
        self.assert_led(((1, 0, 0),), [(1, 2), (0, 1)], ((0, 1, 0),))

    def test_no_comparers(self):
        for wires in range(1, 9):
            self.assert_led(plain(wires), [], plain(wires))

    def test_repeated_comparers(self):
        self.assert_led(plain(2), [(0, 1)] * 120, ((0, 0), (0, 1), (1, 1)))
        self.assert_led(plain(2), [(0, 1), (1, 0)] * 60, ((0, 0), (1, 0), (1, 1)))

    def test_no_rows(self):
        self.assert_led((), [], ())
        self.assert_led((), [(0, 1), (2, 1)], ())

    def test_one_row(self):
        self.assert_led(((1, 1, 0, 0),), [(0, 2), (1, 3)], ((0, 0, 1, 1),))
        self.assert_led(((0,),), [], ((0,),))

    def test_all_plain_rows_become_the_sorted_ones(self):
        self.assert_led(plain(4), SORTING_FOUR, ((0, 0, 0, 0), (0, 0, 0, 1), (0, 0, 1, 1), (0, 1, 1, 1), (1, 1, 1, 1)))
        self.assert_led(plain(1), [], plain(1))

    def test_as_the_document_tells(self):
        for wires in range(2, 9):
            for many in (1, 2, 5, 9, 120):
                for start in range(4):
                    comparers = scattered(wires, many, start)
                    state = plain(wires)[start:2 ** wires:start + 1]
                    self.assert_led(state, comparers, led_by(state, comparers))
                    self.assert_led(plain(wires), comparers, led_by(plain(wires), comparers))

    def test_ascending_and_none_twice(self):
        for many in range(12):
            found = led(plain(5), scattered(5, many, many))
            self.assertEqual(list(found), sorted(set(found)))

    def test_a_tuple_of_comparers_and_the_arguments_stay(self):
        state, comparers = plain(3), [(0, 1), (2, 1)]
        self.assertEqual(led(state, tuple(comparers)), led(state, comparers))
        self.assertEqual((state, comparers), (plain(3), [(0, 1), (2, 1)]))

    def test_the_other_way_round_it_is_the_state_but_for_a_renaming(self):
        for start in range(2, 9):
            state = plain(4)[::start]
            for i, j in all_pairs(4):
                names = list(range(4))
                names[i], names[j] = j, i
                straight, turned = led(state, [(i, j)]), led(state, [(j, i)])
                self.assertTrue(covers_by(turned, straight, tuple(names)))
                self.assertTrue(covers_by(straight, turned, tuple(names)))

    def test_a_state_that_covers_another_one_is_finished_as_soon(self):
        for start in range(1, 9):
            covered = plain(3)[start % 3::1 + start % 2]
            for names in permutations(range(3)):
                state = tuple(sorted(renamed_by(row, names) for row in covered[1:]))
                for many in range(3):
                    paths = [list(chosen) for chosen in product(all_pairs(3), repeat=many)]
                    if any(not has_twins(led(covered, path)) for path in paths):
                        self.assertTrue(any(not has_twins(led(state, path)) for path in paths))


class AllLayers(unittest.TestCase):

    def test_one_wire_and_two_wires(self):
        self.assertEqual(all_layers(1), [])
        self.assertEqual(all_layers(2), [((0, 1),)])

    def test_three_wires(self):
        self.assertEqual(all_layers(3), [((0, 1),), ((0, 2),), ((1, 2),)])

    def test_four_wires(self):
        self.assertEqual(
            all_layers(4),
            [
                ((0, 1),), ((0, 1), (2, 3)), ((0, 2),), ((0, 2), (1, 3)), ((0, 3),), ((0, 3), (1, 2)),
                ((1, 2),), ((1, 3),), ((2, 3),),
            ],
        )

    def test_as_the_document_tells(self):
        for wires in range(1, 6):
            found = all_layers(wires)
            self.assertEqual(found, layers_of(wires))
            self.assertEqual(found, sorted(set(found)))

    def test_the_kinds_of_the_parts(self):
        for wires in range(1, 5):
            found = all_layers(wires)
            self.assertIs(type(found), list)
            for layer in found:
                self.assertIs(type(layer), tuple)
                for pair in layer:
                    self.assertIs(type(pair), tuple)
                    self.assertEqual([type(wire) for wire in pair], [int, int])

    def test_a_new_list_at_each_call(self):
        for wires in range(1, 5):
            first = all_layers(wires)
            first.append(())
            first.reverse()
            self.assertEqual(all_layers(wires), layers_of(wires))


class LeastNumbers(unittest.TestCase):

    def test_fewest(self):
        for wires in range(1, 5):
            self.assertEqual(fewest(wires)[0], LEAST["fewest"][wires])

    def test_fewest_layers(self):
        for wires in range(1, 5):
            self.assertEqual(fewest_layers(wires)[0], LEAST["layers"][wires])

    def test_no_network_with_fewer_sorts(self):
        for word, search in SEARCHES:
            for wires in range(1, 5):
                steps = steps_of(word, wires)
                number = search(wires)[0]
                for fewer in range(number):
                    for chosen in product(steps, repeat=fewer):
                        comparers = [pair for step in chosen for pair in step]
                        self.assertFalse(sorts_all(wires, comparers), comparers)

    def test_numbers_are_numbers(self):
        for _, search in SEARCHES:
            for wires in range(1, 5):
                self.assertIs(type(search(wires)), tuple)
                self.assertEqual(len(search(wires)), 2)
                self.assertIs(type(search(wires)[0]), int)

    def test_a_network_with_this_number_sorts_every_row(self):
        for wires in range(1, 5):
            few = Network(wires, fewest(wires)[1][1])
            shallow = Network(wires, fewest_layers(wires)[1][1])
            self.assertEqual(len(few.comparers), LEAST["fewest"][wires])
            self.assertEqual(depth(shallow), LEAST["layers"][wires])
            for network in (few, shallow):
                self.assertIs(network.is_standard, True)
                for row in product((-10 ** 40, 0, 3, 5), repeat=wires):
                    self.assertEqual(network.run(row), tuple(sorted(row)))

    def test_somewhat_beyond_the_limits(self):
        number, paper = fewest(5)
        self.assertEqual(number, 9)
        self.assertIsNone(wrong_paper("fewest", 5, number, paper))
        number, paper = fewest_layers(5)
        self.assertEqual(number, 5)
        self.assertIsNone(wrong_paper("layers", 5, number, paper))


class Papers(unittest.TestCase):

    def papers(self):
        return [(word, wires) + search(wires) for word, search in SEARCHES for wires in range(1, 5)]

    def test_without_comparers(self):
        self.assertEqual(fewest(1), (0, ("fewest", (), ())))
        self.assertEqual(fewest_layers(1), (0, ("layers", (), ())))

    def test_two_wires(self):
        levels = (((((0, 0), (0, 1), (1, 0), (1, 1)), ()),),)
        self.assertEqual(fewest(2), (1, ("fewest", ((0, 1),), levels)))
        self.assertEqual(fewest_layers(2), (1, ("layers", ((0, 1),), levels)))

    def test_the_word(self):
        for word, _, _, paper in self.papers():
            self.assertEqual(len(paper), 3)
            self.assertEqual(paper[0], word)

    def test_the_number_of_levels(self):
        for _, _, number, paper in self.papers():
            self.assertEqual(len(paper[2]), number)

    def test_the_first_level(self):
        for _, wires, number, paper in self.papers():
            if number > 0:
                self.assertEqual([state for state, _ in paper[2][0]], [tuple(plain_rows(wires))])

    def test_states(self):
        for _, wires, _, paper in self.papers():
            for level in paper[2]:
                self.assertGreater(len(level), 0)
                for state, _ in level:
                    self.assertEqual(list(state), sorted(set(state)))
                    self.assertLessEqual(set(state), set(plain(wires)))

    def test_covers(self):
        for word, wires, _, paper in self.papers():
            for level, following in zip(paper[2], paper[2][1:]):
                for state, covers in level:
                    self.assertEqual(len(covers), len(steps_of(word, wires)))
                    for (index, names), step in zip(covers, steps_of(word, wires)):
                        self.assertIn(index, range(len(following)))
                        self.assertEqual(sorted(names), list(range(wires)))
                        self.assertTrue(covers_by(following[index][0], led_by(state, step), names))

    def test_the_last_level(self):
        for _, _, _, paper in self.papers():
            for level in paper[2][-1:]:
                for state, covers in level:
                    self.assertEqual(covers, ())
                    self.assertTrue(has_twins(state))

    def test_nothing_is_wrong(self):
        for word, wires, number, paper in self.papers():
            self.assertIsNone(wrong_paper(word, wires, number, paper))

    def assert_only_tuples(self, value):
        if type(value) is not int:
            self.assertIs(type(value), tuple)
            for part in value:
                self.assert_only_tuples(part)

    def test_tuples_and_numbers_only(self):
        for _, wires, _, paper in self.papers():
            self.assertIs(type(paper), tuple)
            self.assertIs(type(paper[0]), str)
            self.assert_only_tuples(paper[1:])
            for number in numbers_of(paper[1:]):
                self.assertIn(number, range(max(wires, 16)))
            for level in paper[2]:
                for pair in level:
                    self.assertEqual(len(pair), 2)

    def test_called_again_it_gives_the_same(self):
        for _, search in SEARCHES:
            for wires in range(1, 5):
                self.assertEqual(search(wires), search(wires))


class TestsOfTheLook(unittest.TestCase):
    """The look through a paper must see faults, or it shows nothing."""

    def test_faults_are_seen(self):
        number, (word, comparers, levels) = fewest(4)
        self.assertEqual(wrong_paper("layers", 4, number, (word, comparers, levels)), "word")
        self.assertEqual(wrong_paper("fewest", 4, 6, (word, comparers, levels)), "number")
        self.assertEqual(wrong_paper("fewest", 4, 5, (word, comparers, levels[:4])), "number of levels")
        self.assertEqual(wrong_paper("fewest", 4, 5, (word, comparers[::-1], levels)), "no sorting")
        self.assertEqual(wrong_paper("fewest", 4, 5, (word, comparers, levels[1:] + levels[:1])), "first level")
        state, covers = levels[1][0]
        turned = levels[:1] + (((state[::-1], covers),),) + levels[2:]
        self.assertEqual(wrong_paper("fewest", 4, 5, (word, comparers, turned)), "rows out of order or twice")
        less = levels[:1] + (((state[:-1], covers),),) + levels[2:]
        self.assertEqual(wrong_paper("fewest", 4, 5, (word, comparers, less)), "not covered")
        self.assertEqual(pairs_of(3), [(0, 1), (0, 2), (1, 2)])


if __name__ == "__main__":
    unittest.main()
