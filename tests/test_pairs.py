"""Point 9: pairs of words (with points 1, 2 and 4 as far as they speak of these)."""

import unittest
from random import Random

from normalwords.errors import InvalidWord, Undefined
from normalwords.machines import Machine
from normalwords.pairs import read_pair, side_by_side, stray_row, takes_pair
from reference import (
    ODD_VALUES, all_words, beside, no_words, pairing, pairs_up_to, random_machine, random_pair_machine,
    takes, taking, words_up_to)


class SideBySide(unittest.TestCase):
    def test_ordinary_pairs(self):
        self.assertEqual(side_by_side(2, (0, 1), (1, 0)), (1, 3))
        self.assertEqual(side_by_side(letters=2, u=(0, 1), v=(1,)), (1, 5))
        self.assertEqual(side_by_side(2, (1,), (0, 0, 1)), (3, 6, 7))
        self.assertEqual(side_by_side(1, (0, 0), (0,)), (0, 1))
        self.assertEqual(side_by_side(1, (), (0, 0)), (2, 2))
        self.assertEqual(side_by_side(6, (5,), (5, 5)), (40, 47))

    def test_empty_words(self):
        for letters in range(1, 7):
            self.assertEqual(side_by_side(letters, (), ()), ())

    def test_all_short_pairs(self):
        for letters in (1, 2, 3):
            for u, v in pairs_up_to(letters, 3):
                row = side_by_side(letters, u, v)
                self.assertEqual(row, beside(letters, u, v))
                self.assertEqual(len(row), max(len(u), len(v)))
                self.assertEqual(read_pair(letters, row), (u, v))

    def test_long_words(self):
        self.assertEqual(side_by_side(2, (0,) * 40, (1,) * 30), (1,) * 30 + (2,) * 10)

    def test_the_first_wrong_word(self):
        for value in ODD_VALUES + ((2,), (0, 2), [], [0], (0, True)):
            for u, v in ((value, ()), ((), value), (value, (9,)), ((1, 1), value)):
                with self.assertRaises(InvalidWord) as caught:
                    side_by_side(2, u, v)
                self.assertIs(caught.exception.value, value)


class ReadPair(unittest.TestCase):
    def test_all_short_rows(self):
        for letters in (1, 2):
            right = {beside(letters, u, v): (u, v) for u, v in pairs_up_to(letters, 3)}
            for row in words_up_to((letters + 1) ** 2 - 1, 3):
                self.assertEqual(read_pair(letters, row), right.get(row))

    def test_a_letter_behind_a_blank(self):
        self.assertIsNone(read_pair(letters=1, row=(1, 0)))
        self.assertIsNone(read_pair(1, (1, 2)))
        self.assertIsNone(read_pair(1, (2, 1)))
        self.assertIsNone(read_pair(2, (0, 2, 0)))
        self.assertIsNone(read_pair(2, (6, 2)))
        self.assertEqual(read_pair(2, (0, 2, 2)), ((0, 0, 0), (0,)))
        self.assertEqual(read_pair(2, ()), ((), ()))

    def test_wrong_rows(self):
        for value in ODD_VALUES + ((3,), (0, 3), [], [0], (0, True), ((), ())):
            with self.assertRaises(InvalidWord) as caught:
                read_pair(1, value)
            self.assertIs(caught.exception.value, value)
        self.assertEqual(read_pair(6, (47,)), ((), (5,)))
        with self.assertRaises(InvalidWord):
            read_pair(6, (48,))


class StrayRow(unittest.TestCase):
    def test_pair_machines_have_none(self):
        random = Random(21)
        for _ in range(60):
            letters = random.randint(1, 2)
            self.assertIsNone(stray_row(random_pair_machine(random, letters, random.randint(1, 4)), letters))
        self.assertIsNone(stray_row(no_words(8), 2))
        self.assertIsNone(stray_row(pairing(2, [((), ()), ((0,), (1, 1, 1))]), 2))

    def test_many_machines(self):
        random = Random(22)
        told = set()
        for _ in range(150):
            letters = random.randint(1, 2)
            size = (letters + 1) ** 2 - 1
            machine = random_machine(random, size, random.randint(1, 3), random.choice((0.5, 0.7, 0.8)))
            rows = [row for row in words_up_to(size, 6 if letters == 1 else 4)
                    if takes(machine, row) and read_pair(letters, row) is None]
            found = stray_row(machine, letters)
            told.add(found is None)
            if rows:
                self.assertEqual(found, rows[0])
            elif found is not None:
                self.assertGreater(len(found), 4)
                self.assertTrue(takes(machine, found))
                self.assertIsNone(read_pair(letters, found))
        self.assertEqual(told, {True, False})

    def test_the_first_one(self):
        self.assertEqual(stray_row(machine=all_words(3), letters=1), (1, 0))
        self.assertEqual(stray_row(all_words(8), 2), (2, 0))
        self.assertEqual(stray_row(taking(8, [(0,), (6, 7, 0), (0, 2, 3, 4)]), 2), (6, 7, 0))
        self.assertEqual(stray_row(taking(8, [(2, 6)]), 2), (2, 6))
        self.assertEqual(stray_row(taking(8, [(6, 2)]), 2), (6, 2))

    def test_one_far_away(self):
        # The states of a machine with six of them are passed before it is taken.
        table = [(None, 1, None), (None, 2, None), (None, 3, None), (None, 4, None), (None, None, 5), (None,) * 3]
        self.assertEqual(stray_row(Machine(3, table, [1, 1, 1, 1, 1, 1]), 1), (1, 1, 1, 1, 2))
        self.assertIsNone(stray_row(Machine(3, table, [1, 1, 1, 1, 1, 0]), 1))

    def test_unlike_letters(self):
        for machine, letters in ((all_words(3), 2), (all_words(2), 1), (all_words(8), 1), (all_words(9), 2)):
            with self.assertRaises(Undefined) as caught:
                stray_row(machine, letters)
            self.assertEqual(caught.exception.what, "letters")


class TakesPair(unittest.TestCase):
    def test_many_machines(self):
        random = Random(23)
        for _ in range(40):
            letters = random.randint(1, 2)
            machine = random_machine(random, (letters + 1) ** 2 - 1, random.randint(1, 6))
            for u, v in pairs_up_to(letters, 3):
                self.assertIs(takes_pair(machine, letters, u, v), takes(machine, beside(letters, u, v)))

    def test_ordinary_pairs(self):
        machine = pairing(2, [((0, 1), (1,)), ((), ()), ((0,) * 6, (1,) * 6)])
        self.assertIs(takes_pair(machine, 2, (0, 1), (1,)), True)
        self.assertIs(takes_pair(machine, 2, (1,), (0, 1)), False)
        self.assertIs(takes_pair(machine=machine, letters=2, u=(), v=()), True)
        self.assertIs(takes_pair(machine, 2, (0,) * 6, (1,) * 6), True)
        self.assertIs(takes_pair(machine, 2, (0,) * 6, (1,) * 5), False)

    def test_wrong_words(self):
        machine = all_words(8)
        for value in ODD_VALUES + ((2,), [], [0]):
            for u, v in ((value, ()), ((), value), (value, (9,)), (value, None)):
                with self.assertRaises(InvalidWord) as caught:
                    takes_pair(machine, 2, u, v)
                self.assertIs(caught.exception.value, value)

    def test_unlike_letters_come_first(self):
        for u, v in (((), ()), ((9,), ()), ((), None)):
            with self.assertRaises(Undefined) as caught:
                takes_pair(all_words(3), 2, u, v)
            self.assertEqual(caught.exception.what, "letters")


class Basics(unittest.TestCase):
    def test_arguments_stay_and_results_are_the_same_again(self):
        machine = Machine(3, [(0, 1, None), (1, 0, 0)], [1, 1])
        self.assertEqual(stray_row(machine, 1), stray_row(machine, 1))
        self.assertEqual(takes_pair(machine, 1, (0,), ()), takes_pair(machine, 1, (0,), ()))
        self.assertEqual(machine, Machine(3, [(0, 1, None), (1, 0, 0)], [1, 1]))


if __name__ == "__main__":
    unittest.main()
