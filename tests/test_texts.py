"""The texts of networks, written and read."""

import re
import unittest
from functools import lru_cache

from neededrows.errors import InvalidText, NetworkError
from neededrows.network import Network
from neededrows.texts import read, write
from tests.samples import SORTING_FOUR, all_pairs, scattered, some_networks, sorting

FORM = re.compile("([0-9]+):((?: [0-9]+-[0-9]+)*)")
LONG = "12:" + " 10-11" * 666 + " "


def is_number(digits):
    """Whether these are the digits of a number without leading zeros."""
    return str(int(digits)) == digits


@lru_cache(maxsize=None)
def is_text(text):
    """Whether this is the text of a network with at most 12 wires, by the words of the document."""
    found = FORM.fullmatch(text)
    if not found or not is_number(found[1]) or not 1 <= int(found[1]) <= 12:
        return False
    for pair in found[2].split():
        i, j = pair.split("-")
        if not is_number(i) or not is_number(j) or i == j or max(int(i), int(j)) >= int(found[1]):
            return False
    return True


# Whatever can be missing at the end of a beginning that stops within a number of wires or a comparer.
ENDS = sorted(
    {word[at:] for word in [f"{n}:" for n in range(1, 13)] for at in range(len(word) + 1)}
    | {word[at:] for word in [f" {i}-{j}" for i, j in all_pairs(12)] for at in range(len(word) + 1)},
    key=len,
)


@lru_cache(maxsize=None)
def is_beginning(text):
    """Whether some end makes this the text of a network."""
    return any(is_text(text + end) for end in ENDS)


def where_as_told(text):
    """The length of the longest beginning that is a beginning of the text of some network."""
    lengths = [length for length in range(len(text) + 1) if is_beginning(text[:length])]
    return max(lengths)


class Written(unittest.TestCase):

    def test_with_comparers(self):
        self.assertEqual(write(Network(4, SORTING_FOUR)), "4: 0-1 2-3 0-2 1-3 1-2")
        self.assertEqual(write(Network(2, [(0, 1)])), "2: 0-1")

    def test_without_comparers(self):
        for wires in range(1, 13):
            self.assertEqual(write(Network(wires, [])), str(wires) + ":")

    def test_comparers_that_are_not_standard(self):
        self.assertEqual(write(Network(3, [(2, 0), (1, 0), (1, 2)])), "3: 2-0 1-0 1-2")

    def test_numbers_of_two_digits(self):
        self.assertEqual(write(Network(12, [(0, 11), (10, 1), (11, 10)])), "12: 0-11 10-1 11-10")

    def test_it_is_a_string(self):
        self.assertIs(type(write(Network(1, []))), str)

    def test_the_argument_stays(self):
        network = Network(4, SORTING_FOUR)
        self.assertEqual(write(network), write(network))
        self.assertEqual((network.wires, network.comparers), (4, tuple(SORTING_FOUR)))

    def test_somewhat_beyond_the_limits(self):
        self.assertEqual(write(Network(14, [(13, 0)])), "14: 13-0")


class ReadBack(unittest.TestCase):

    def assert_read(self, text, wires, comparers):
        found = read(text)
        self.assertIs(type(found), Network)
        self.assertEqual((found.wires, found.comparers), (wires, tuple(comparers)))
        self.assertIs(type(found.wires), int)
        for pair in found.comparers:
            self.assertEqual([type(pair), type(pair[0]), type(pair[1])], [tuple, int, int])

    def test_texts(self):
        self.assert_read("1:", 1, [])
        self.assert_read("12:", 12, [])
        self.assert_read("2: 1-0", 2, [(1, 0)])
        self.assert_read("4: 0-1 2-3 0-2 1-3 1-2", 4, SORTING_FOUR)
        self.assert_read("12: 1-11 11-1 1-10 10-11 2-1", 12, [(1, 11), (11, 1), (1, 10), (10, 11), (2, 1)])

    def test_what_is_written_is_read(self):
        samples = some_networks() + [Network(wires, []) for wires in range(1, 13)]
        samples += [Network(wires, sorting(wires)) for wires in range(1, 13)]
        samples += [Network(wires, scattered(wires, many)) for wires in (2, 10, 11, 12) for many in (1, 9, 400)]
        samples += [Network(wires, all_pairs(wires)) for wires in range(1, 13)]
        for network in samples:
            self.assert_read(write(network), network.wires, network.comparers)
            self.assertEqual(read(write(network)), network)

    def test_four_thousand_characters(self):
        text = "12:" + " 10-11" * 663 + " 1-0" + " 11-10" + " 1-11 0-1"
        self.assertEqual(len(text), 4000)
        self.assert_read(text, 12, [(10, 11)] * 663 + [(1, 0), (11, 10), (1, 11), (0, 1)])
        text = "2:" + " 0-1" * 999
        self.assertEqual(len(text), 3998)
        self.assert_read(text, 2, [(0, 1)] * 999)

    def test_called_again_it_gives_the_same(self):
        self.assertEqual(read("3: 0-1 2-1"), read("3: 0-1 2-1"))


class NotRead(unittest.TestCase):

    def assert_invalid(self, text, where):
        for error in (InvalidText, NetworkError, ValueError):
            with self.assertRaises(error) as caught:
                read(text)
            self.assertIs(type(caught.exception), InvalidText)
            self.assertEqual(caught.exception.where, where, repr(text))
            self.assertIs(type(caught.exception.where), int)

    def assert_as_told(self, text):
        if is_text(text):
            self.assertEqual(write(read(text)), text)
        else:
            self.assert_invalid(text, where_as_told(text))

    def test_the_empty_text(self):
        self.assert_invalid("", 0)

    def test_the_number_of_wires(self):
        self.assert_invalid("0:", 0)
        self.assert_invalid("13:", 1)
        self.assert_invalid("13: 0-1", 1)
        self.assert_invalid("20: 0-1", 1)
        self.assert_invalid("120: 0-1", 2)
        self.assert_invalid("100000000000000000000000000000000:", 2)
        self.assert_invalid("-2:", 0)
        self.assert_invalid("+2:", 0)

    def test_leading_zeros(self):
        self.assert_invalid("02: 0-1", 0)
        self.assert_invalid("012:", 0)
        self.assert_invalid("00:", 0)
        self.assert_invalid("3: 00-1", 4)
        self.assert_invalid("3: 01-2", 4)
        self.assert_invalid("12: 0-01", 6)
        self.assert_invalid("12: 1-00", 7)

    def test_a_wire_out_of_range(self):
        self.assert_invalid("2: 0-2", 5)
        self.assert_invalid("2: 2-0", 3)
        self.assert_invalid("3: 0-1 3-1", 7)
        self.assert_invalid("10: 0-10", 7)
        self.assert_invalid("11: 10-11", 8)
        self.assert_invalid("12: 10-12", 8)
        self.assert_invalid("12: 12-0", 5)
        self.assert_invalid("11: 11-0", 5)
        self.assert_invalid("12: 0-111", 8)
        self.assert_invalid("1: 0-1", 2)
        self.assert_invalid("1: ", 2)

    def test_both_wires_equal(self):
        self.assert_invalid("2: 0-0", 5)
        self.assert_invalid("2: 1-1", 5)
        self.assert_invalid("12: 11-11", 8)
        self.assert_invalid("12: 10-10", 8)

    def test_equal_wires_that_could_go_on(self):
        # With 11 wires a 10 may follow, with 10 wires nothing.
        self.assert_invalid("10: 1-1", 6)
        self.assert_invalid("11: 1-1", 7)
        self.assert_invalid("12: 1-1", 7)
        self.assert_invalid("12: 1-1 0-1", 7)
        self.assert_invalid("11: 1-11", 7)

    def test_spaces(self):
        self.assert_invalid("2: 0-1 ", 7)
        self.assert_invalid("2: ", 3)
        self.assert_invalid("2:  0-1", 3)
        self.assert_invalid("2: 0-1  1-0", 7)
        self.assert_invalid("2: 0 -1", 4)
        self.assert_invalid("2: 0- 1", 5)
        self.assert_invalid(" 2: 0-1", 0)
        self.assert_invalid("2 : 0-1", 1)
        self.assert_invalid("2:0-1", 2)
        self.assert_invalid("2: 0-11-0", 6)

    def test_newlines_and_tabs(self):
        self.assert_invalid("2: 0-1\n", 6)
        self.assert_invalid("2:\n", 2)
        self.assert_invalid("2:\t0-1", 2)
        self.assert_invalid("\n", 0)
        self.assert_invalid("12\n:", 2)

    def test_whole_texts_that_only_begin_one(self):
        for text in ("1", "12", "7", "2: 0", "2: 0-", "12: 1", "12: 10", "12: 10-", "2: 0-1 1"):
            self.assert_invalid(text, len(text))

    def test_cut_at_each_place(self):
        for text in ("12: 0-1 10-11 1-10 11-1", "4: 0-1 2-3 0-2 1-3 1-2", "11: 10-1 1-10 1-0", "1:"):
            for length in range(len(text) + 1):
                self.assert_as_told(text[:length])
                if not is_text(text[:length]):
                    self.assert_invalid(text[:length], length)

    def test_one_character_otherwise(self):
        for text in ("12: 1-11 10-0", "11: 0-1 10-1", "10: 1-0 9-1", "3: 0-1 2-1", "2: 1-0", "1:"):
            for at in range(len(text) + 1):
                self.assert_as_told(text[:at] + text[at + 1:])
                for sign in "0123456789:- \n\t~!x+_.;/":
                    self.assert_as_told(text[:at] + sign + text[at + 1:])
                    self.assert_as_told(text[:at] + sign + text[at:])

    def test_all_short_texts(self):
        for start, signs, most in (("", "012:- ", 4), ("2:", "01 -", 5), ("11:", "01 -", 5)):
            texts = [start]
            for _ in range(most):
                texts = [text + sign for text in texts for sign in signs]
                for text in texts:
                    self.assert_as_told(text)

    def test_four_thousand_characters(self):
        self.assertEqual(len(LONG), 4000)
        self.assert_invalid(LONG, 4000)
        self.assert_invalid(LONG[:-1] + "\n", 3999)
        self.assert_invalid(LONG[:-2] + "  ", 3999)
        self.assert_invalid(LONG[:3001] + "-" + LONG[3002:], 3001)
        self.assert_invalid(" " * 4000, 0)
        self.assert_invalid("1" * 4000, 2)
        self.assert_invalid("2:" + " 0-1" * 998 + " 0-0\n\t", 3997)

    def test_after_an_error_all_is_as_before(self):
        self.assert_invalid("2: 0-1 0-0", 9)
        self.assertEqual(read("2: 0-1"), Network(2, [(0, 1)]))
        self.assert_invalid("2: 0-1 0-0", 9)


class TestsOfTheLook(unittest.TestCase):
    """What the tests themselves take for texts and beginnings."""

    def test_texts_and_beginnings(self):
        self.assertTrue(is_text("12: 11-0"))
        for text in ("13:", "2: 0-2", "2: 0-1 ", "02:", "2: 0-0", ""):
            self.assertFalse(is_text(text), text)
        for text in ("", "1", "12: 1-1", "2: ", "2: 0-1 1-"):
            self.assertTrue(is_beginning(text), text)
        for text in ("0", "1: ", "10: 1-1", "12: 12", " "):
            self.assertFalse(is_beginning(text), text)


if __name__ == "__main__":
    unittest.main()
