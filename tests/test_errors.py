"""The interface's errors."""

import unittest

from downstair.errors import NoMachine, NoNote, StairError


class ErrorsTest(unittest.TestCase):
    def test_every_refusal_is_a_stair_error_and_a_value_error(self):
        for error in (StairError, NoMachine, NoNote):
            self.assertTrue(issubclass(error, StairError))
            self.assertTrue(issubclass(error, ValueError))
        self.assertEqual(StairError.__bases__, (ValueError,))
        self.assertEqual(NoMachine.__bases__, (StairError,))
        self.assertEqual(NoNote.__bases__, (StairError,))

    def test_neither_is_beneath_the_other(self):
        self.assertFalse(issubclass(NoMachine, NoNote))
        self.assertFalse(issubclass(NoNote, NoMachine))

    def test_they_are_raised_with_words(self):
        for error in (StairError, NoMachine, NoNote):
            with self.assertRaises(ValueError) as caught:
                raise error("some words")
            self.assertIs(type(caught.exception), error)
            self.assertEqual(str(caught.exception), "some words")
