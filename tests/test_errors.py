"""Point 3: the errors and their attributes."""

import unittest

from normalwords import errors
from normalwords.errors import (
    InvalidCommand, InvalidImages, InvalidMachine, InvalidNumber, InvalidRules, InvalidTable,
    InvalidTelling, InvalidText, InvalidWord, NormalError, NothingToUndo, Undefined)

NAMES = {
    InvalidNumber: ("value",), InvalidWord: ("value",), InvalidMachine: ("part", "place"),
    InvalidTelling: ("part", "place"), InvalidTable: ("value",), InvalidImages: ("value",),
    InvalidRules: ("place",), InvalidText: ("text", "at"), InvalidCommand: ("command", "at"),
    Undefined: ("what",), NothingToUndo: ("word",)}


class Errors(unittest.TestCase):
    def test_there_are_eleven_and_their_common_one(self):
        found = {value for value in vars(errors).values() if isinstance(value, type)}
        self.assertEqual(found, set(NAMES) | {NormalError})
        self.assertEqual(len(NAMES), 11)

    def test_all_stand_directly_under_the_common_one(self):
        self.assertTrue(issubclass(NormalError, ValueError))
        for error in NAMES:
            with self.subTest(error=error.__name__):
                self.assertEqual(error.__bases__, (NormalError,))

    def test_arguments_are_kept_by_position_and_by_name(self):
        for error, names in NAMES.items():
            with self.subTest(error=error.__name__):
                values = [object() for _ in names]
                for made in (error(*values), error(**dict(zip(names, values)))):
                    for name, value in zip(names, values):
                        self.assertIs(getattr(made, name), value)

    def test_lists_are_kept_themselves(self):
        value = [1]
        made = InvalidWord(value)
        value.append(2)
        self.assertIs(made.value, value)

    def test_each_one_has_a_message(self):
        for error, names in NAMES.items():
            with self.subTest(error=error.__name__):
                self.assertTrue(str(error(*names)))

    def test_as_many_arguments_as_names(self):
        for error, names in NAMES.items():
            with self.subTest(error=error.__name__):
                with self.assertRaises(TypeError):
                    error(*names, 0)
                with self.assertRaises(TypeError):
                    error(*names[1:])


if __name__ == "__main__":
    unittest.main()
