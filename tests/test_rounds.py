"""Point 24: the integers, round groups, mirrors and free groups (with points 1, 2 and 4 as far
as they speak of these)."""

import unittest
from random import Random

from normalwords.errors import InvalidNumber
from normalwords.frees import free_group
from normalwords.groups import Group
from normalwords.languages import least_machine
from normalwords.machines import Machine
from normalwords.rounds import mirrors, round_group, whole_numbers
from made import check_group, check_machines
from reference import ODD_VALUES, first_forms, free_steps
from samples import told

NO = None


def has_no_undone_letter(undo, word):
    return all(undo[x] != y for x, y in zip(word, word[1:]))


def reduced_after(undo):
    def after(held, x):
        return held[:-1] if held and undo[held[-1]] == x else held + (x,)
    return after


class WholeNumbers(unittest.TestCase):
    def test_machines(self):
        telling = whole_numbers().telling
        self.assertEqual(telling.undo, (1, 0))
        self.assertEqual(telling.words, Machine(2, [(1, 2), (1, NO), (NO, 2)], [1, 1, 1]))
        # 0 is 0 beside 0, 2 is 0 beside a blank, 4 is 1 beside 1, 5 is 1 beside a blank, 6 and 7
        # are a blank beside 0 and 1.
        up = Machine(8, [(1, NO, NO, NO, 2, 3, 3, NO), (1, NO, NO, NO, NO, NO, 3, NO),
                         (NO, NO, NO, NO, 2, 3, NO, NO), (NO,) * 8], [0, 0, 0, 1])
        down = Machine(8, [(1, NO, 2, NO, 3, NO, NO, 2), (1, NO, 2, NO, NO, NO, NO, NO), (NO,) * 8,
                           (NO, NO, NO, NO, 3, NO, NO, 2)], [0, 0, 1, 0])
        self.assertEqual(telling.steps, (up, down))

    def test_group(self):
        check_group(self, whole_numbers(), (1, 0), lambda word: len(set(word)) < 2, 0, lambda n, x: n + 1 - 2 * x, 6,
                    Random(141))

    def test_numbers(self):
        whole = whole_numbers()
        self.assertEqual(whole.normal((0, 1, 1, 1)), (1, 1))
        self.assertEqual(whole.times((0, 0), (0,)), (0, 0, 0))
        self.assertIsNone(whole.size())
        self.assertIs(whole.is_commutative(), True)


class RoundGroups(unittest.TestCase):
    def test_machines(self):
        # Each number of elements, the machine of the normal words: 0 as often as up to half of it.
        for n, table in ((1, [(NO, NO)]), (2, [(1, NO), (NO, NO)]), (3, [(1, 1), (NO, NO)]),
                         (4, [(1, 2), (2, NO), (NO, NO)]), (5, [(1, 2), (3, NO), (NO, 3), (NO, NO)]),
                         (6, [(1, 2), (3, NO), (NO, 4), (4, NO), (NO, NO)]),
                         (7, [(1, 2), (3, NO), (NO, 4), (5, NO), (NO, 5), (NO, NO)]),
                         (8, [(1, 2), (3, NO), (NO, 4), (5, NO), (NO, 6), (6, NO), (NO, NO)])):
            self.assertEqual(round_group(n).telling.words, Machine(2, table, [1] * len(table)))

    def test_steps_of_small_groups(self):
        kept = Machine(8, [(NO,) * 8], [1])
        self.assertEqual(round_group(1).telling.steps, (kept, kept))
        turned = Machine(8, [(NO, NO, 1, NO, NO, NO, 1, NO), (NO,) * 8], [0, 1])
        self.assertEqual(round_group(2).telling.steps, (turned, turned))
        up = Machine(8, [(NO, 1, NO, NO, NO, 1, 1, NO), (NO,) * 8], [0, 1])
        down = Machine(8, [(NO, NO, 1, 1, NO, NO, NO, 1), (NO,) * 8], [0, 1])
        self.assertEqual(round_group(3).telling.steps, (up, down))

    def test_groups(self):
        random = Random(142)
        for n in range(1, 9):
            forms = list(first_forms(n, (1, -1)).values())
            check_group(self, round_group(n), (1, 0), lambda word: word in forms, 0,
                        lambda a, x: (a + (1, -1)[x]) % n, 5, random)
            self.assertEqual(round_group(n=n).size(), n)

    def test_normal_words(self):
        # Of two words of one length the one with lesser letters stands ahead.
        self.assertEqual([round_group(4).normal((0,) * n) for n in range(5)], [(), (0,), (0, 0), (1,), ()])
        self.assertEqual(round_group(2).normal((1,)), (0,))
        self.assertEqual(round_group(1).normal((1, 1, 0)), ())
        self.assertEqual(round_group(8).normal((1,) * 4), (0,) * 4)
        self.assertEqual(round_group(7).normal((0,) * 4), (1,) * 3)

    def test_equal_calls(self):
        for n in range(1, 9):
            self.assertEqual(round_group(n), round_group(n))
            self.assertEqual([m for m in range(1, 9) if round_group(m) == round_group(n)], [n])

    def test_other_numbers(self):
        for n in ODD_VALUES + (0, 9, -1, -8, 10, 100, (), "3", (3,), [3], round_group(3)):
            with self.assertRaises(InvalidNumber) as caught:
                round_group(n)
            self.assertIs(caught.exception.value, n)


class Mirrors(unittest.TestCase):
    def test_machines(self):
        telling = mirrors().telling
        self.assertEqual(telling.undo, (0, 1))
        self.assertEqual(telling.words, Machine(2, [(1, 2), (NO, 2), (1, NO)], [1, 1, 1]))
        # As for the whole numbers, but the letters stand by turns: behind 1 a 0 is written, behind
        # 0 not; a 0 at the end is taken off.
        first = Machine(8, [(1, NO, 2, NO, 3, NO, 2, NO), (NO, NO, NO, NO, 3, NO, NO, NO), (NO,) * 8,
                            (1, NO, 2, NO, NO, NO, 2, NO)], [0, 0, 1, 0])
        second = Machine(8, [(1, NO, NO, NO, 2, 3, NO, 3), (NO, NO, NO, NO, 2, 3, NO, 3),
                             (1, NO, NO, NO, NO, NO, NO, NO), (NO,) * 8], [0, 0, 0, 1])
        self.assertEqual(telling.steps, (first, second))

    def test_group(self):
        check_group(self, mirrors(), (0, 1), lambda word: has_no_undone_letter((0, 1), word), (),
                    reduced_after((0, 1)), 6, Random(143))

    def test_words(self):
        self.assertEqual(mirrors().normal((0, 0, 1, 0, 1, 1)), (1, 0))
        self.assertIsNone(mirrors().size())
        self.assertIs(mirrors().is_commutative(), False)
        self.assertEqual(mirrors(), mirrors())


class FreeGroups(unittest.TestCase):
    def test_machines(self):
        telling = free_group(2).telling
        self.assertEqual(telling.undo, (1, 0, 3, 2))
        self.assertEqual(telling.words, Machine(4, [
            (1, 2, 3, 4), (1, NO, 3, 4), (NO, 2, 3, 4), (1, 2, 3, NO), (1, 2, NO, 4)], [1] * 5))
        # x beside x is 6 x; 0 beside a blank is 4, a blank beside 1 is 21.
        def row(places):
            return tuple(places.get(letter) for letter in range(24))
        step = Machine(24, [
            row({0: 1, 4: 2, 6: 3, 12: 4, 18: 5, 21: 2}), row({0: 1, 4: 2, 12: 4, 18: 5}), row({}),
            row({6: 3, 12: 4, 18: 5, 21: 2}), row({0: 1, 4: 2, 6: 3, 12: 4, 21: 2}),
            row({0: 1, 4: 2, 6: 3, 18: 5, 21: 2})], [0, 0, 1, 0, 0, 0])
        self.assertEqual(telling.steps[1], step)

    def test_against_plain_steps(self):
        for made, undo in ((free_group(1), (1, 0)), (free_group(2), (1, 0, 3, 2)), (mirrors(), (0, 1))):
            words, steps = free_steps(undo)
            self.assertEqual(made.telling.words, least_machine(words))
            self.assertEqual(made.telling.steps, tuple(least_machine(step) for step in steps))

    def test_groups(self):
        for n, length in ((1, 6), (2, 4)):
            undo = (1, 0, 3, 2)[:2 * n]
            check_group(self, free_group(n=n), undo, lambda word: has_no_undone_letter(undo, word), (),
                        reduced_after(undo), length, Random(144))

    def test_long_words(self):
        random = Random(145)
        for _ in range(20):
            word = tuple(random.randrange(4) for _ in range(40))
            self.assertEqual(free_group(2).normal(word), told((), reduced_after((1, 0, 3, 2)), word))

    def test_one_element_makes_the_whole_numbers(self):
        self.assertEqual(free_group(1), whole_numbers())
        self.assertNotEqual(free_group(1), mirrors())
        self.assertNotEqual(free_group(1), free_group(2))
        self.assertEqual(free_group(2), free_group(2))

    def test_are_groups(self):
        for made in (free_group(1), free_group(2), whole_numbers(), mirrors(), round_group(5)):
            check_machines(self, made)
            self.assertIs(type(made), Group)

    def test_other_numbers(self):
        for n in ODD_VALUES + (0, 3, 4, -1, -2, (), "1", (1,), [1], (1, 0), free_group(1)):
            with self.assertRaises(InvalidNumber) as caught:
                free_group(n)
            self.assertIs(caught.exception.value, n)


if __name__ == "__main__":
    unittest.main()
