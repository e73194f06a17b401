"""The errors of the program and their places in the tree of errors."""

import unittest

from neededrows.errors import InvalidNetwork, InvalidText, NetworkError


class TreeOfErrors(unittest.TestCase):

    def test_the_base_class_is_a_value_error(self):
        self.assertEqual(NetworkError.__bases__, (ValueError,))

    def test_both_errors_are_direct_subclasses(self):
        self.assertEqual(InvalidNetwork.__bases__, (NetworkError,))
        self.assertEqual(InvalidText.__bases__, (NetworkError,))

    def test_each_is_caught_as_network_error_and_as_value_error(self):
        for error in (InvalidNetwork("no"), InvalidText(1)):
            for caught in (NetworkError, ValueError):
                with self.assertRaises(caught):
                    raise error

    def test_the_two_are_not_each_other(self):
        self.assertNotIsInstance(InvalidText(1), InvalidNetwork)
        self.assertNotIsInstance(InvalidNetwork("no"), InvalidText)


class Fields(unittest.TestCase):

    def test_invalid_text_has_where(self):
        for where in (0, 1, 17, 4000, 10 ** 5000):
            with self.assertRaises(InvalidText) as caught:
                raise InvalidText(where)
            self.assertEqual(caught.exception.where, where)
            self.assertIs(type(caught.exception.where), int)

    def test_each_invalid_text_has_its_own_where(self):
        first, second = InvalidText(3), InvalidText(4)
        self.assertEqual((first.where, second.where), (3, 4))

    def test_invalid_network_has_no_fields(self):
        self.assertEqual(vars(InvalidNetwork("no")), {})


if __name__ == "__main__":
    unittest.main()
