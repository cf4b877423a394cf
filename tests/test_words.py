"""Point 5: words and undos (with points 1 and 2 as far as they speak of these)."""

import unittest
from itertools import permutations, product

from normalwords.errors import InvalidWord
from normalwords.machines import Machine
from normalwords.words import freely_reduced, is_ahead, is_undo, is_word, undone
from reference import ODD_VALUES, words_up_to


class IsUndo(unittest.TestCase):
    def test_ordinary_ones(self):
        for undo in [(0,), (1, 0), (0, 1), (1, 0, 3, 2), (3, 2, 1, 0), (0, 2, 1), (5, 4, 3, 2, 1, 0)]:
            self.assertIs(is_undo(undo), True, undo)
            self.assertIs(is_undo(value=undo), True, undo)

    def test_just_those_that_undo_themselves(self):
        for k in range(1, 7):
            for row in permutations(range(k)):
                twice = all(row[row[x]] == x for x in range(k))
                self.assertIs(is_undo(row), twice, row)

    def test_all_tuples_of_three(self):
        right = {(0, 1, 2), (1, 0, 2), (0, 2, 1), (2, 1, 0)}
        for row in product(range(-1, 4), repeat=3):
            self.assertIs(is_undo(row), row in right, row)

    def test_none_and_seven_letters(self):
        self.assertIs(is_undo(()), False)
        self.assertIs(is_undo((0, 1, 2, 3, 4, 5, 6)), False)

    def test_wrong_values(self):
        for value in ODD_VALUES + ([1, 0], (1, False), (True, 0), (1, "0"), (1, None), ((1,), 0), 0, 10):
            self.assertIs(is_undo(value), False, value)

    def test_machine_inside(self):
        self.assertIs(is_undo((Machine(1, [(0,)], [1]),)), False)


class IsWord(unittest.TestCase):
    def test_ordinary_ones(self):
        self.assertIs(is_word((0, 1, 0), 2), True)
        self.assertIs(is_word((0, 1, 2), 2), False)
        self.assertIs(is_word(value=(47,), letters=48), True)
        self.assertIs(is_word((48,), 48), False)

    def test_the_empty_word_is_one_over_any_letters(self):
        for letters in (0, 1, 48, 1000):
            self.assertIs(is_word((), letters), True)
        self.assertIs(is_word((0,), 0), False)

    def test_wrong_values(self):
        for value in ODD_VALUES + ([], [0, 0], (0, True), (0, None), (0, [0]), 0, 1, (0, -1)):
            self.assertIs(is_word(value, 3), False, value)

    def test_long_ones(self):
        self.assertIs(is_word((0, 1) * 50000, 2), True)
        self.assertIs(is_word((0, 1) * 50000 + (2,), 2), False)


class Undone(unittest.TestCase):
    def test_ordinary_words(self):
        self.assertEqual(undone((1, 0, 2), (0, 2, 1)), (0, 2, 1))
        self.assertEqual(undone((1, 0), (0, 0, 1)), (0, 1, 1))
        self.assertEqual(undone(undo=(1, 0, 3, 2), word=(0, 2)), (3, 1))
        self.assertEqual(undone((0,), ()), ())

    def test_twice_is_the_word_itself(self):
        for undo in [(0, 1, 2), (1, 0, 2), (2, 1, 0)]:
            for word in words_up_to(3, 5):
                self.assertEqual(undone(undo, undone(undo, word)), word)
                self.assertEqual(freely_reduced(undo, word + undone(undo, word)), ())

    def test_wrong_words(self):
        for function in (undone, freely_reduced):
            for value in ODD_VALUES + ((2,), [], [0, 1], (0, 1, 2), (0, True)):
                with self.assertRaises(InvalidWord) as caught:
                    function((1, 0), value)
                self.assertIs(caught.exception.value, value)


class FreelyReduced(unittest.TestCase):
    def test_ordinary_words(self):
        self.assertEqual(freely_reduced((1, 0), (0, 1)), ())
        self.assertEqual(freely_reduced((0, 1), (0, 0, 0)), (0,))
        self.assertEqual(freely_reduced((1, 0, 3, 2), (0, 2, 3, 1, 0, 0)), (0, 0))
        self.assertEqual(freely_reduced(undo=(1, 0), word=(0, 0)), (0, 0))
        self.assertEqual(freely_reduced((1, 0), ()), ())

    def test_as_taken_out_one_by_one(self):
        for undo in [(0, 1, 2), (1, 0, 2), (0, 2, 1)]:
            for word in words_up_to(3, 6):
                left = word
                places = [0]
                while places:
                    places = [k for k in range(len(left) - 1) if undo[left[k]] == left[k + 1]]
                    if places:
                        left = left[:places[-1]] + left[places[-1] + 2:]
                self.assertEqual(freely_reduced(undo, word), left)

    def test_long_words(self):
        word = (0,) * 20000 + (1,) * 20000
        self.assertEqual(freely_reduced((1, 0), word), ())


class IsAhead(unittest.TestCase):
    def test_in_order(self):
        words = words_up_to(2, 4)
        for i, one in enumerate(words):
            for j, other in enumerate(words):
                self.assertIs(is_ahead(one, other), i < j)

    def test_equal_ones_and_names(self):
        self.assertIs(is_ahead((), ()), False)
        self.assertIs(is_ahead((1, 2), (1, 2)), False)
        self.assertIs(is_ahead(one=(5,), other=(0, 0)), True)
        self.assertIs(is_ahead(one=(0, 0), other=(5,)), False)


if __name__ == "__main__":
    unittest.main()
