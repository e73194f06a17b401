"""The judge: papers that it takes, and papers that it does not take."""

import unittest
from itertools import permutations

from neededrows.fewest import fewest, fewest_layers
from neededrows.judge import takes_fewest, takes_layers
from tests.papers import (
    LEAST,
    all_reached,
    has_twins,
    led_by,
    paper_with,
    plain,
    renamed_by,
    states_of,
    steps_of,
    wrong_paper,
)

JUDGES = {"fewest": takes_fewest, "layers": takes_layers}
SEARCHES = {"fewest": fewest, "layers": fewest_layers}
WORDS = ("fewest", "layers")
VERY_GREAT = 10 ** 40
FINISHED = ((0, 0, 0, 0), (0, 0, 0, 1), (0, 0, 1, 1), (0, 1, 1, 1), (1, 1, 1, 1))
SORTS_FOUR = (
    ((0, 1), (2, 3), (0, 2), (1, 3), (1, 2)),
    ((2, 3), (0, 1), (1, 3), (0, 2), (1, 2)),
    ((0, 2), (1, 3), (0, 1), (2, 3), (1, 2)),
    ((0, 3), (1, 2), (0, 1), (2, 3), (1, 2)),
)


def replaced(value, path, new):
    """A paper with something else at one place."""
    if not path:
        return new
    at = path[0]
    return value[:at] + (replaced(value[at], path[1:], new),) + value[at + 1:]


def at_path(value, path):
    for at in path:
        value = value[at]
    return value


def paths_in(value, path=()):
    """The places of all parts of a paper, tuples and others."""
    found = [path]
    if isinstance(value, tuple):
        for at, part in enumerate(value):
            found.extend(paths_in(part, path + (at,)))
    return found


def number_paths(paper):
    return [path for path in paths_in(paper) if isinstance(at_path(paper, path), int)]


def has_free_length(path):
    """Whether the tuple at this place of a paper may have any length and keep its form."""
    if path[:1] == (1,):
        return len(path) == 1
    # levels, a level, a state and its rows, covers, names of a renaming
    return len(path) in (1, 2) or len(path) == 4 or (len(path) == 5 and path[3] == 0) or (
        len(path) == 6 and path[3] == 1 and path[5] == 1
    )


class Checks(unittest.TestCase):

    def judged(self, word, wires, number, paper):
        answer = JUDGES[word](wires, number, paper)
        self.assertIs(type(answer), bool)
        return answer

    def assert_takes(self, word, wires, number, paper):
        self.assertIs(self.judged(word, wires, number, paper), True)

    def assert_refuses(self, word, wires, number, paper):
        self.assertIs(self.judged(word, wires, number, paper), False)

    def assert_as_told(self, word, wires, number, paper):
        told = wrong_paper(word, wires, number, paper)
        self.assertIs(self.judged(word, wires, number, paper), told is None, told)

    def right_papers(self, least_wires=1):
        return [(word, wires) + SEARCHES[word](wires) for word in WORDS for wires in range(least_wires, 5)]

    def assert_refuses_in_each(self, path, change, least_wires=3):
        """The same change at one place of all papers of some wires."""
        for word, wires, number, paper in self.right_papers(least_wires):
            other = replaced(paper, path, change(at_path(paper, path)))
            self.assertNotEqual(other, paper)
            self.assert_refuses(word, wires, number, other)


class PapersOfTheProgram(Checks):

    def test_they_are_taken(self):
        for word, wires, number, paper in self.right_papers():
            self.assertEqual(number, LEAST[word][wires])
            self.assert_takes(word, wires, number, paper)

    def test_not_with_other_numbers(self):
        for word, wires, number, paper in self.right_papers():
            for other in (*range(-2, 12), 3000, VERY_GREAT, -VERY_GREAT):
                if other != number:
                    self.assert_refuses(word, wires, other, paper)

    def test_not_by_the_other_function(self):
        for word, wires, number, paper in self.right_papers():
            other = "layers" if word == "fewest" else "fewest"
            for told in (number, LEAST[other][wires]):
                self.assert_refuses(other, wires, told, paper)

    def test_not_for_other_wires(self):
        for word, wires, number, paper in self.right_papers():
            for other in range(1, 5):
                if other != wires:
                    self.assert_refuses(word, other, number, paper)
                    self.assert_refuses(word, other, LEAST[word][other], paper)

    def test_called_again_it_gives_the_same_and_changes_nothing(self):
        for word, wires, number, paper in self.right_papers():
            self.assert_takes(word, wires, number, paper)
            self.assert_takes(word, wires, number, paper)
            self.assertEqual(SEARCHES[word](wires), (number, paper))

    def test_somewhat_beyond_the_limits(self):
        for word in WORDS:
            number, paper = SEARCHES[word](5)
            self.assert_takes(word, 5, number, paper)
            self.assert_refuses(word, 5, number + 1, paper)


class RightPapersMadeOtherwise(Checks):

    def assert_takes_with(self, word, wires, number, comparers, all_states):
        paper = paper_with(word, wires, comparers, all_states)
        self.assertIsNone(wrong_paper(word, wires, number, paper))
        self.assert_takes(word, wires, number, paper)
        return paper

    def test_no_levels_for_the_number_0(self):
        for word in WORDS:
            self.assert_takes(word, 1, 0, (word, (), ()))

    def test_states_and_pairs_in_another_order(self):
        for word, wires, number, paper in self.right_papers(3):
            turned = [states[::-1] for states in states_of(paper)]
            other = self.assert_takes_with(word, wires, number, paper[1], turned)
            self.assertNotEqual(other, paper)

    def test_other_renamings(self):
        for word, wires, number, paper in self.right_papers(3):
            for names in permutations(range(wires)):
                states = [
                    [tuple(sorted(renamed_by(row, names) for row in state)) for state in level]
                    for level in states_of(paper)
                ]
                self.assert_takes_with(word, wires, number, paper[1], states)

    def test_states_repeated(self):
        for word, wires, number, paper in self.right_papers(3):
            states = states_of(paper)
            self.assert_takes_with(word, wires, number, paper[1], states[:1] + [level * 3 for level in states[1:]])

    def test_states_that_no_pair_points_to(self):
        for word, wires, number, paper in self.right_papers(3):
            states = states_of(paper)
            more = [level + [plain(wires)] for level in states]
            self.assert_takes_with(word, wires, number, paper[1], states[:1] + more[1:])
            twins = ((0,) * (wires - 1) + (1,), (1,) + (0,) * (wires - 1))
            self.assert_takes_with(word, wires, number, paper[1], states[:-1] + [states[-1] + [twins]])

    def test_all_states_that_are_reached(self):
        for word in WORDS:
            for wires in (2, 3, 4):
                number = LEAST[word][wires]
                levels = all_reached(word, wires, number)
                own = tuple(range(wires))
                papers = [
                    tuple(
                        (state, tuple((following.index(led_by(state, step)), own) for step in steps_of(word, wires)))
                        for state in states
                    )
                    for states, following in zip(levels, levels[1:])
                ]
                last = tuple((state, ()) for state in levels[-1])
                comparers = SEARCHES[word](wires)[1][1]
                self.assert_takes(word, wires, number, (word, comparers, (*papers, last)))

    def test_other_comparers(self):
        levels, deep = fewest(4)[1][2], fewest_layers(4)[1][2]
        for comparers in SORTS_FOUR:
            self.assert_takes("fewest", 4, 5, ("fewest", comparers, levels))
            self.assert_takes("layers", 4, 3, ("layers", comparers, deep))
        for comparers in (((0, 1), (1, 2), (0, 1)), ((0, 2), (0, 1), (1, 2)), ((1, 2), (0, 2), (0, 1))):
            self.assert_takes("fewest", 3, 3, ("fewest", comparers, fewest(3)[1][2]))
            self.assert_takes("layers", 3, 3, ("layers", comparers, fewest_layers(3)[1][2]))

    def test_any_number_of_comparers_with_the_depth(self):
        levels = fewest_layers(4)[1][2]
        self.assert_takes("layers", 4, 3, ("layers", SORTS_FOUR[0] + ((0, 3),), levels))
        # The layers need not stand one behind the other.
        self.assert_takes("layers", 4, 3, ("layers", ((0, 1), (2, 3), (0, 2), (1, 3), (0, 3), (1, 2)), levels))
        self.assert_takes("layers", 4, 3, ("layers", ((2, 3), (0, 1), (1, 3), (0, 2), (1, 2)), levels))

    def test_very_many_pairs(self):
        number, (word, comparers, levels) = fewest(4)
        many = levels[:1] + tuple((level * 3000)[:3000] for level in levels[1:])
        self.assert_takes("fewest", 4, number, (word, comparers, many))
        broken = replaced(many, (4, 2999, 0), FINISHED)
        self.assert_refuses("fewest", 4, number, (word, comparers, broken))
        broken = replaced(many, (3, 2999, 1, 5, 0), 3000)
        self.assert_refuses("fewest", 4, number, (word, comparers, broken))


class Words(Checks):

    def test_other_words(self):
        for word, wires, number, paper in self.right_papers():
            for other in ("", "Fewest", "LAYERS", "few", "fewest ", "layer", "comparers"):
                self.assert_refuses(word, wires, number, (other,) + paper[1:])

    def test_the_word_of_the_other_form(self):
        for word, wires, number, paper in self.right_papers():
            other = "layers" if word == "fewest" else "fewest"
            self.assert_refuses(word, wires, number, (other,) + paper[1:])


class Numbers(Checks):

    def test_no_number_but_the_least_with_any_levels(self):
        for word, wires, _, paper in self.right_papers():
            for number in range(12):
                for comparers in (paper[1], paper[1] + ((0, 1),), paper[1] * 2, ((0, 1),) * number):
                    for levels in (paper[2] + paper[2][-1:] * (number - len(paper[2])), paper[2][:number]):
                        self.assert_as_told(word, wires, number, (word, comparers, levels))

    def test_the_number_0_for_more_wires(self):
        for word in WORDS:
            for wires in (2, 3, 4):
                self.assert_refuses(word, wires, 0, (word, (), ()))
                self.assert_refuses(word, wires, 0, (word, SEARCHES[word](wires)[1][1], ()))

    def test_one_wire_with_a_number_above_0(self):
        for word in WORDS:
            for comparers in ((), ((0, 1),), ((0, 0),)):
                level = ((((0,), (1,)), ()),)
                self.assert_refuses(word, 1, 1, (word, comparers, (level,)))
                self.assert_refuses(word, 1, 0, (word, comparers, (level,)))
        self.assert_refuses("fewest", 1, 0, ("fewest", ((0, 1),), ()))
        self.assert_refuses("layers", 1, 0, ("layers", ((0, 1),), ()))

    def test_a_greater_number_with_a_network_that_has_it(self):
        three, four = fewest(3)[1][2], fewest(4)[1][2]
        self.assert_refuses("fewest", 3, 4, ("fewest", ((0, 1), (0, 1), (1, 2), (0, 1)), three + three[-1:]))
        for at in range(5):
            longer = four[:at + 1] + four[at:]
            self.assert_refuses("fewest", 4, 6, ("fewest", SORTS_FOUR[0] + ((1, 2),), longer))
        levels = fewest_layers(4)[1][2]
        self.assert_refuses("layers", 4, 4, ("layers", SORTS_FOUR[0] + ((1, 2),), levels + levels[-1:]))
        self.assert_refuses("layers", 4, 5, ("layers", SORTS_FOUR[0] + ((1, 2),) * 2, levels + levels[-1:] * 2))

    def test_very_long_papers(self):
        number, (word, comparers, levels) = fewest(4)
        same = ((levels[1] * 3000),) * 2998
        self.assert_refuses("fewest", 4, 3000, (word, comparers * 600, levels[:1] + same + levels[-1:]))
        layers = fewest_layers(4)[1][2]
        same = ((layers[1] * 1500),) * 2998
        self.assert_refuses("layers", 4, 3000, ("layers", comparers + ((0, 1),) * 2995, layers[:1] + same + layers[-1:]))


class Comparers(Checks):

    def assert_refuses_with(self, comparers):
        self.assert_refuses("fewest", 4, 5, ("fewest", comparers, fewest(4)[1][2]))
        self.assert_refuses("layers", 4, 3, ("layers", comparers, fewest_layers(4)[1][2]))

    def test_one_that_is_not_standard(self):
        for comparers in SORTS_FOUR:
            for at, (i, j) in enumerate(comparers):
                self.assert_refuses_with(replaced(comparers, (at,), (j, i)))
                self.assert_refuses_with(replaced(comparers, (at,), (j, j)))

    def test_networks_that_sort_and_are_not_standard(self):
        # A comparer the wrong way round in front does not keep a network from sorting.
        comparers = ((1, 0), (0, 1), (2, 3), (0, 2), (1, 3), (1, 2))
        self.assert_refuses("layers", 4, 4, ("layers", comparers, fewest_layers(4)[1][2] * 2))
        for wires in (2, 3):
            for word in WORDS:
                number, (_, told, levels) = SEARCHES[word](wires)
                self.assert_refuses(word, wires, number + 1, (word, ((1, 0),) + told, levels + levels[-1:]))
                self.assert_refuses(word, wires, number, (word, ((1, 0),) + told[1:], levels))

    def test_a_wire_out_of_range(self):
        for comparers in SORTS_FOUR:
            for at, (i, j) in enumerate(comparers):
                wrong = [(i, 4), (i, VERY_GREAT), (-1, j), (i - 4, j), (i - 4, j - 4), (-VERY_GREAT, j)]
                for pair in wrong + [(i + 4, j + 4), (-VERY_GREAT, VERY_GREAT), (3, 4)]:
                    self.assert_refuses_with(replaced(comparers, (at,), pair))

    def test_one_too_many_or_too_few(self):
        for comparers in SORTS_FOUR:
            for at in range(5):
                self.assert_refuses_with(comparers[:at] + comparers[at + 1:])
                more = comparers[:at] + comparers[at:at + 1] * 2 + comparers[at + 1:]
                self.assert_refuses("fewest", 4, 5, ("fewest", more, fewest(4)[1][2]))
                self.assert_refuses("layers", 4, 3, ("layers", more, fewest_layers(4)[1][2]))
        self.assert_refuses_with(())
        self.assert_refuses_with(SORTS_FOUR[0] * 600)
        self.assert_refuses_with(((0, 1),) * 3000)

    def test_no_sorting_network(self):
        self.assert_refuses_with(SORTS_FOUR[0][::-1])
        self.assert_refuses_with(((0, 1),) * 5)
        self.assert_refuses_with(SORTS_FOUR[0][:4] + ((0, 3),))
        self.assert_refuses_with(((0, 1), (1, 2), (0, 1), (2, 3), (1, 2)))


class LevelsAndStates(Checks):

    def test_the_number_of_levels(self):
        for word, wires, number, paper in self.right_papers(2):
            levels = paper[2]
            for at in range(number):
                self.assert_refuses(word, wires, number, paper[:2] + (levels[:at] + levels[at + 1:],))
                self.assert_refuses(word, wires, number, paper[:2] + (levels[:at + 1] + levels[at:],))
            for other in ((), ((),), levels + ((),), ((),) + levels, levels * 600):
                self.assert_refuses(word, wires, number, paper[:2] + (other,))

    def test_a_level_without_pairs(self):
        for word, wires, number, paper in self.right_papers(2):
            for at in range(number):
                self.assert_refuses(word, wires, number, replaced(paper, (2, at), ()))
            self.assert_refuses(word, wires, number, replaced(paper, (2,), ((),) * number))

    def test_levels_without_pairs_behind_each_other(self):
        number, (word, comparers, levels) = fewest(4)
        for first in range(1, number):
            self.assert_refuses(word, 4, number, (word, comparers, levels[:first] + ((),) * (number - first)))

    def test_the_first_level_has_one_pair(self):
        self.assert_refuses_in_each((2, 0), lambda level: level * 2)
        self.assert_refuses_in_each((2, 0), lambda level: level * 2, 2)

    def test_the_first_level_has_all_plain_rows(self):
        for word, wires, number, paper in self.right_papers(2):
            for at in range(2 ** wires):
                state = plain(wires)[:at] + plain(wires)[at + 1:]
                self.assert_refuses(word, wires, number, replaced(paper, (2, 0, 0, 0), state))
            self.assert_refuses(word, wires, number, replaced(paper, (2, 0, 0, 0), paper[2][-1][0][0][:-1]))

    def test_rows_out_of_order(self):
        self.assert_refuses_in_each((2, 1, 0, 0), lambda state: state[::-1])
        self.assert_refuses_in_each((2, 2, 0, 0), lambda state: (state[1], state[0]) + state[2:])
        self.assert_refuses_in_each((2, 0, 0, 0), lambda state: state[:-2] + (state[-1], state[-2]), 2)

    def test_rows_repeated(self):
        self.assert_refuses_in_each((2, 1, 0, 0), lambda state: state[:1] + state)
        self.assert_refuses_in_each((2, 2, 0, 0), lambda state: state + state[-1:])
        self.assert_refuses_in_each((2, 2, 0, 0), lambda state: state[:3] + state[2:])
        self.assert_refuses_in_each((2, 0, 0, 0), lambda state: state[:2] + state[1:], 2)
        self.assert_refuses_in_each((2, 1, 0, 0), lambda state: state[:1] * 3000)

    def test_rows_with_other_numbers(self):
        for new in (2, -1, VERY_GREAT, -VERY_GREAT):
            self.assert_refuses_in_each((2, 1, 0, 0, 1, 0), lambda number: new)
            for word, wires, number, paper in self.right_papers(2):
                for at, level in enumerate(paper[2]):
                    state = level[-1][0]
                    row = state[-1][:-1] + (abs(new),) if new > 0 else state[0][:-1] + (new,)
                    changed = state[:-1] + (row,) if new > 0 else (row,) + state[1:]
                    path = (2, at, len(level) - 1, 0)
                    self.assert_refuses(word, wires, number, replaced(paper, path, changed))
                    self.assert_refuses(word, wires, number, replaced(paper, path, state + ((new,) * wires,)))
                    self.assert_refuses(word, wires, number, replaced(paper, path, ((new,) * wires,) + state))

    def test_a_state_of_the_last_level_that_no_pair_points_to(self):
        for word, wires, number, paper in self.right_papers(2):
            if number > 1:
                low, high = (0,) * (wires - 1) + (1,), (1,) + (0,) * (wires - 1)
                great = (VERY_GREAT,) * wires
                wrong = [(high, low), (low, low, high), (low, high, great), (low + (0,), high + (0,)), ((), low, high)]
                wrong += [((-1,) * wires, low, high), (low[:-1] + (2,), high), (low, high, (1, 1) + (0,) * wires), (low,)]
                for state in wrong + [(), ((),), ((0,) * wires, (1,) * wires)]:
                    other = replaced(paper, (2, number - 1), paper[2][-1] + ((state, ()),))
                    self.assert_refuses(word, wires, number, other)
                right = replaced(paper, (2, number - 1), paper[2][-1] + (((low, high), ()),))
                self.assert_takes(word, wires, number, right)

    def test_rows_of_another_length(self):
        for word, wires, number, paper in self.right_papers(2):
            for at, level in enumerate(paper[2]):
                path = (2, at, 0, 0)
                state = at_path(paper, path)
                others = [state[:-1] + (state[-1] + (1,),), state[:-1] + (state[-1] + (1,) * 2996,)]
                others += [state + (state[-1] + (0,),), state + (state[-1] + (VERY_GREAT,),)]
                others += [((),) + state, ((0,),) + state[1:], ((0,) * (wires - 1),) + state[1:]]
                others += [tuple(row[:-1] for row in state), tuple(row + (0,) for row in state)]
                for other in others:
                    self.assert_refuses(word, wires, number, replaced(paper, path, other))

    def test_states_without_rows(self):
        for word, wires, number, paper in self.right_papers(2):
            for at, level in enumerate(paper[2]):
                for place in range(len(level)):
                    self.assert_refuses(word, wires, number, replaced(paper, (2, at, place, 0), ()))

    def test_states_without_rows_from_some_level_on(self):
        for word, wires, number, paper in self.right_papers(3):
            own = tuple((0, tuple(range(wires))) for _ in steps_of(word, wires))
            for first in range(1, number):
                before = [((state, own),) for state in (paper[2][at][0][0] for at in range(first))]
                empty = [(((), own),) for _ in range(first, number - 1)] + [(((), ()),)]
                self.assert_refuses(word, wires, number, paper[:2] + ((*before, *empty),))


class Covers(Checks):

    def cover_paths(self, paper):
        """The places of the covers and of the pairs in them."""
        return [
            ((2, at, place, 1), (2, at, place, 1, k))
            for at, level in enumerate(paper[2])
            for place, (state, covers) in enumerate(level)
            for k in range(len(covers))
        ]

    def test_covers_of_another_length(self):
        for word, wires, number, paper in self.right_papers(3):
            for path, _ in self.cover_paths(paper):
                covers = at_path(paper, path)
                for other in ((), covers[:-1], covers[1:], covers + covers[-1:], covers[:1] + covers, covers * 300):
                    self.assert_refuses(word, wires, number, replaced(paper, path, other))

    def test_covers_in_the_last_level(self):
        for word, wires, number, paper in self.right_papers(2):
            for place in range(len(paper[2][-1])):
                for many in (1, len(steps_of(word, wires))):
                    covers = ((0, tuple(range(wires))),) * many
                    self.assert_refuses(word, wires, number, replaced(paper, (2, number - 1, place, 1), covers))
                self.assert_refuses(word, wires, number, replaced(paper, (2, number - 1, place, 1), ((0, ()),)))

    def test_indexes_out_of_range(self):
        for word, wires, number, paper in self.right_papers(3):
            for _, path in self.cover_paths(paper):
                index, following = at_path(paper, path)[0], paper[2][path[1] + 1]
                # The first one would be right, counted from the end.
                wrong = (index - len(following), -1, len(following), len(following) + index, VERY_GREAT, -VERY_GREAT)
                for other in wrong:
                    self.assert_refuses(word, wires, number, replaced(paper, path + (0,), other))

    def test_names_that_are_no_renaming(self):
        for word, wires, number, paper in self.right_papers(3):
            for _, path in self.cover_paths(paper):
                names = at_path(paper, path)[1]
                wrong = [(), names[:-1], names[1:], names + names[-1:], names + (wires,), names * 750]
                wrong += [names[:-1] + names[:1], names[1:2] + names[1:], (0,) * wires]
                for at, name in enumerate(names):
                    # The first one would be right, counted from the end.
                    for other in (name - wires, -1, wires, VERY_GREAT, -VERY_GREAT):
                        wrong.append(names[:at] + (other,) + names[at + 1:])
                wrong.append(tuple(name - wires for name in names))
                for other in wrong:
                    self.assert_refuses(word, wires, number, replaced(paper, path + (1,), other))

    def test_all_other_indexes_and_renamings(self):
        refused = 0
        for word, wires, number, paper in self.right_papers(3):
            for _, path in self.cover_paths(paper)[::1 if wires < 4 else 7]:
                for index in range(len(paper[2][path[1] + 1])):
                    for names in permutations(range(wires)):
                        other = replaced(paper, path, (index, names))
                        self.assert_as_told(word, wires, number, other)
                        refused += not self.judged(word, wires, number, other)
        self.assertGreater(refused, 500)

    def test_a_renaming_is_not_its_reverse(self):
        # The one state of the level 1 covers by (1, 2, 0), and not by (2, 0, 1).
        number, paper = fewest(3)
        levels = states_of(paper)
        self.assertEqual(levels[1], [((0, 0, 0), (0, 0, 1), (0, 1, 0), (0, 1, 1), (1, 1, 0), (1, 1, 1))])
        path = (2, 0, 0, 1, 2)
        self.assert_takes("fewest", 3, number, replaced(paper, path, (0, (1, 2, 0))))
        self.assert_refuses("fewest", 3, number, replaced(paper, path, (0, (2, 0, 1))))

    def test_a_state_that_is_not_covered(self):
        for word, wires, number, paper in self.right_papers(3):
            for at, level in enumerate(paper[2]):
                if at > 0:
                    for place in range(len(level)):
                        other = replaced(paper, (2, at, place, 0), plain(wires))
                        self.assert_as_told(word, wires, number, other)
            # All rows cover nothing but themselves.
            self.assert_refuses(word, wires, number, replaced(paper, (2, 1, 0, 0), plain(wires)))

    def test_a_paper_with_fewer_states_than_are_needed(self):
        number, (word, comparers, levels) = fewest(4)
        for at in (2, 3):
            for place in range(len(levels[at])):
                less = levels[at][:place] + levels[at][place + 1:]
                others = levels[:at] + (less,) + levels[at + 1:]
                self.assert_as_told(word, 4, number, (word, comparers, others))


class LastLevel(Checks):

    def test_a_finished_state(self):
        for word in WORDS:
            number, paper = SEARCHES[word](4)
            for place in range(len(paper[2][-1])):
                for state in (FINISHED, FINISHED[:3], FINISHED[:1], ((0, 0, 1, 0), (1, 0, 1, 1)), ()):
                    self.assertFalse(has_twins(state))
                    path = (2, number - 1, place, 0)
                    self.assert_refuses(word, 4, number, replaced(paper, path, state))

    def test_a_finished_state_more(self):
        for word in WORDS:
            number, paper = SEARCHES[word](4)
            for state in (FINISHED, FINISHED[2:]):
                level = paper[2][-1] + ((state, ()),)
                self.assert_refuses(word, 4, number, replaced(paper, (2, number - 1), level))
                level = ((state, ()),) + paper[2][-1]
                self.assert_refuses(word, 4, number, replaced(paper, (2, number - 1), level))


class EachPlace(Checks):
    """One change at each place of each paper, judged as the words of the document tell."""

    def test_another_number(self):
        for word, wires, number, paper in self.right_papers():
            for path in number_paths(paper)[::1 if wires < 4 else 5]:
                old = at_path(paper, path)
                for new in (old + 1, old - 1, 1 - old, old - wires):
                    self.assert_as_told(word, wires, number, replaced(paper, path, new))

    def test_a_very_great_number(self):
        for word, wires, number, paper in self.right_papers():
            for path in number_paths(paper):
                for new in (VERY_GREAT, -VERY_GREAT, VERY_GREAT + at_path(paper, path)):
                    self.assert_refuses(word, wires, number, replaced(paper, path, new))

    def test_very_great_numbers_everywhere(self):
        for word, wires, _, paper in self.right_papers():
            for path in number_paths(paper):
                paper = replaced(paper, path, at_path(paper, path) + VERY_GREAT)
            for number in (LEAST[word][wires], VERY_GREAT, -VERY_GREAT):
                told = wires == 1 and number == 0
                self.assertIs(self.judged(word, wires, number, paper), told)

    def test_another_length(self):
        seen = 0
        for word, wires, number, paper in self.right_papers():
            paths = [path for path in paths_in(paper) if path[1:] or path in ((1,), (2,))]
            for path in paths[::1 if wires < 4 else 3]:
                old = at_path(paper, path)
                if isinstance(old, tuple) and has_free_length(path):
                    for new in (old[:-1], old[1:], old[::-1], old + old[:1], old[-1:] + old, old * 2, ()):
                        seen += 1
                        self.assert_as_told(word, wires, number, replaced(paper, path, new))
        self.assertGreater(seen, 1000)


if __name__ == "__main__":
    unittest.main()
