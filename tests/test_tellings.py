"""Point 11: tellings (with points 1, 2 and 4 as far as they speak of these)."""

import unittest
from random import Random

from normalwords.errors import InvalidNumber, InvalidTelling, InvalidWord
from normalwords.languages import least_machine
from normalwords.machines import Machine
from normalwords.tellings import Telling
from normalwords.words import freely_reduced, undone
from reference import (
    ODD_VALUES, all_words, beside, first_forms, free_steps, no_words, pairing, random_pair_machine,
    round_steps, takes, words_up_to)

UNDO = (1, 0, 3, 2)
WORDS, STEPS = free_steps(UNDO)
FREE = Telling(UNDO, WORDS, STEPS)
SMALL_WORDS, SMALL_STEPS = free_steps((1, 0))


class Making(unittest.TestCase):
    def test_attributes(self):
        self.assertEqual(FREE.undo, UNDO)
        self.assertEqual(FREE.words, WORDS)
        self.assertIsInstance(FREE.steps, tuple)
        self.assertEqual(FREE.steps, tuple(STEPS))
        self.assertEqual(FREE.letters, 4)
        self.assertEqual(Telling((0,), all_words(1), [all_words(3)]).letters, 1)

    def test_by_name_and_with_a_tuple(self):
        self.assertEqual(Telling(undo=UNDO, words=WORDS, steps=tuple(STEPS)), FREE)

    def test_later_changes_have_no_effect(self):
        steps = list(SMALL_STEPS)
        telling = Telling((1, 0), SMALL_WORDS, steps)
        steps[0] = all_words(8)
        steps.append(all_words(8))
        self.assertEqual(telling, Telling((1, 0), SMALL_WORDS, SMALL_STEPS))
        self.assertEqual(telling.led((), 0), (0,))
        self.assertEqual(len(steps), 3)

    def test_any_machines_will_do(self):
        telling = Telling((0, 1), no_words(2), [all_words(8), no_words(8)])
        self.assertEqual(telling.steps, (all_words(8), no_words(8)))

    def test_six_letters(self):
        undo = (5, 4, 3, 2, 1, 0)
        telling = Telling(undo, *free_steps(undo))
        self.assertEqual(telling.walked((0,), (0, 5, 5, 1)), (1,))


class Wrong(unittest.TestCase):
    def refused(self, part, place, undo, words, steps):
        with self.assertRaises(InvalidTelling) as caught:
            Telling(undo, words, steps)
        self.assertEqual((caught.exception.part, caught.exception.place), (part, place))

    def test_undo(self):
        for undo in ODD_VALUES + ((), [1, 0], (1,), (0, 0), (1, 2, 0), (1, False), (0, 1, 2, 3, 4, 5, 6), FREE):
            self.refused("undo", 0, undo, SMALL_WORDS, SMALL_STEPS)

    def test_words(self):
        for words in ODD_VALUES + (all_words(1), all_words(3), all_words(8), 2, ((0, 0),), FREE, [SMALL_WORDS]):
            self.refused("words", 0, (1, 0), words, SMALL_STEPS)

    def test_no_sequence_of_steps(self):
        for steps in (None, True, 0, "ab", SMALL_STEPS[0], FREE):
            self.refused("steps", 0, (1, 0), SMALL_WORDS, steps)

    def test_wrong_steps(self):
        for step in ODD_VALUES + (all_words(2), all_words(9), all_words(7), all_words(48), FREE, SMALL_STEPS):
            for place in range(4):
                steps = list(STEPS)
                steps[place] = step
                self.refused("steps", place, UNDO, WORDS, steps)
                self.refused("steps", place, UNDO, WORDS, tuple(steps))

    def test_too_few_and_too_many(self):
        right = SMALL_STEPS[0]
        self.refused("steps", 0, (1, 0), SMALL_WORDS, [])
        self.refused("steps", 0, (1, 0), SMALL_WORDS, ())
        self.refused("steps", 1, (1, 0), SMALL_WORDS, [right])
        self.refused("steps", 2, (1, 0), SMALL_WORDS, [right] * 3)
        self.refused("steps", 2, (1, 0), SMALL_WORDS, [right] * 7)
        self.refused("steps", 0, (1, 0), SMALL_WORDS, [None])
        self.refused("steps", 1, (1, 0), SMALL_WORDS, [right, None, right])
        self.refused("steps", 2, (1, 0), SMALL_WORDS, [right, right, None, None])

    def test_two_faults_at_once(self):
        self.refused("undo", 0, (0, 0), None, None)
        self.refused("words", 0, (1, 0), all_words(1), [])
        self.refused("steps", 1, (1, 0), SMALL_WORDS, [SMALL_STEPS[0], True, None])
        self.refused("words", 0, (1, 0, 2), SMALL_WORDS, SMALL_STEPS)


class Equality(unittest.TestCase):
    def test_equal_exactly_if_the_parts_are(self):
        self.assertTrue(FREE == Telling(UNDO, WORDS, tuple(STEPS)))
        self.assertFalse(FREE != Telling(UNDO, WORDS, tuple(STEPS)))
        one = Telling((1, 0), SMALL_WORDS, SMALL_STEPS)
        for other in (Telling((0, 1), SMALL_WORDS, SMALL_STEPS), Telling((1, 0), all_words(2), SMALL_STEPS),
                      Telling((1, 0), SMALL_WORDS, SMALL_STEPS[::-1]), FREE,
                      Telling((1, 0), SMALL_WORDS, [SMALL_STEPS[0], all_words(8)])):
            self.assertFalse(one == other)
            self.assertTrue(one != other)

    def test_machines_that_take_the_same_are_not_yet_equal(self):
        least = [least_machine(step) for step in STEPS]
        self.assertEqual(FREE == Telling(UNDO, WORDS, least), least == STEPS)
        longer = Machine(2, SMALL_WORDS.table + ((None, None),), SMALL_WORDS.ends + (0,))
        self.assertTrue(Telling((1, 0), longer, SMALL_STEPS) != Telling((1, 0), SMALL_WORDS, SMALL_STEPS))

    def test_other_kinds(self):
        for other in (None, True, 1, "x", UNDO, WORDS, (UNDO, WORDS, tuple(STEPS)), [FREE], (FREE,)):
            self.assertIs(FREE == other, False)
            self.assertIs(FREE != other, True)
            self.assertIs(other == FREE, False)


class Led(unittest.TestCase):
    def test_free_words(self):
        for word in words_up_to(4, 4):
            for x in range(4):
                right = None
                if freely_reduced(UNDO, word) == word:
                    right = freely_reduced(UNDO, word + (x,))
                self.assertEqual(FREE.led(word, x), right)
        self.assertEqual(FREE.led(word=(0, 2), x=3), (0,))

    def test_the_first_of_many(self):
        step = pairing(2, [((0,), (1, 1)), ((0,), (1, 0)), ((0,), (0, 0, 0)), ((), ())])
        telling = Telling((0, 1), SMALL_WORDS, [step, all_words(8)])
        self.assertEqual(telling.led((0,), 0), (1, 0))
        self.assertIsNone(telling.led((1,), 0))
        self.assertEqual(telling.led((1,), 1), ())

    def test_rows_that_are_not_two_words_lead_nowhere(self):
        # Such steps may be handed in: they take rows with letters behind blanks.
        random = Random(51)
        for _ in range(30):
            step = random_pair_machine(random, 2, 2, 0.5)
            stray = Machine(8, [tuple(0 if t is None else t for t in row) for row in step.table], step.ends)
            telling = Telling((0, 1), all_words(2), [stray, step])
            for word in words_up_to(2, 3):
                for x, machine in enumerate((stray, step)):
                    led = [v for v in words_up_to(2, 6) if takes(machine, beside(2, word, v))]
                    if led:
                        self.assertEqual(telling.led(word, x), led[0])
                    elif telling.led(word, x) is not None:
                        self.assertGreater(len(telling.led(word, x)), 6)

    def test_wrong_words(self):
        for value in ODD_VALUES + ((4,), [], [0], (0, True), "00"):
            for x in (0, 4, None):
                with self.assertRaises(InvalidWord) as caught:
                    FREE.led(value, x)
                self.assertIs(caught.exception.value, value)

    def test_wrong_letters(self):
        for value in ODD_VALUES + (4, -1, 10 ** 20, (0,), "0"):
            with self.assertRaises(InvalidNumber) as caught:
                FREE.led((0,), value)
            self.assertIs(caught.exception.value, value)

    def test_a_word_that_is_not_normal(self):
        self.assertIsNone(FREE.led((0, 1), 2))


class Walked(unittest.TestCase):
    def test_free_words(self):
        for word in words_up_to(4, 2):
            for row in words_up_to(4, 3):
                if freely_reduced(UNDO, word) == word:
                    self.assertEqual(FREE.walked(word, row), freely_reduced(UNDO, word + row))
        self.assertEqual(FREE.walked(word=(0,), row=(2, 3, 1)), ())

    def test_an_empty_row(self):
        self.assertEqual(FREE.walked((0, 2), ()), (0, 2))
        # Nothing is walked, so that the word need not be normal.
        self.assertEqual(FREE.walked((0, 1), ()), (0, 1))

    def test_over_a_step_that_leads_nowhere(self):
        self.assertIsNone(FREE.walked((0, 1), (2,)))
        step = pairing(2, [((), (0,)), ((0,), (0, 0))])
        telling = Telling((1, 0), SMALL_WORDS, [step, all_words(8)])
        self.assertEqual(telling.walked((), (0, 0)), (0, 0))
        self.assertIsNone(telling.walked((), (0, 0, 0)))
        # What would lead on from anywhere comes too late.
        self.assertIsNone(telling.walked((), (0, 0, 0, 1)))
        self.assertEqual(telling.walked((), (0, 0, 1)), ())

    def test_wrong_words(self):
        for value in ODD_VALUES + ((4,), [], [0], (0, True), "00"):
            for word, row in ((value, ()), ((), value), (value, None), ((0, 1), value), (value, (9,))):
                with self.assertRaises(InvalidWord) as caught:
                    FREE.walked(word, row)
                self.assertIs(caught.exception.value, value)

    def test_a_wrong_row_is_told_ahead_of_what_leads_nowhere(self):
        with self.assertRaises(InvalidWord):
            FREE.walked((0, 1), (2, 2, 4))


class Limits(unittest.TestCase):
    def test_words_of_twelve_states(self):
        makers = (1, 11, 3, 9)
        forms = first_forms(12, makers)
        words, steps = round_steps(12, makers)
        self.assertEqual(len(words), 12)
        self.assertLessEqual(max(len(step) for step in steps), 40)
        telling = Telling(UNDO, words, steps)
        for a in range(12):
            for x, b in enumerate(makers):
                self.assertEqual(telling.led(forms[a], x), forms[(a + b) % 12])
        random = Random(52)
        for _ in range(20):
            row = tuple(random.randrange(4) for _ in range(40))
            right = forms[sum(makers[x] for x in row) % 12]
            self.assertEqual(telling.walked((), row), right)
            self.assertEqual(telling.walked(right, undone(UNDO, row)), ())

    def test_words_of_forty_letters(self):
        random = Random(53)
        word = (0, 2) * 20
        self.assertEqual(FREE.led(word, 3), word[:-1])
        self.assertEqual(FREE.led(word, 2), word + (2,))
        self.assertEqual(FREE.walked(word, undone(UNDO, word)), ())
        for _ in range(5):
            row = tuple(random.randrange(4) for _ in range(40))
            self.assertEqual(FREE.walked(word, row), freely_reduced(UNDO, word + row))


class Basics(unittest.TestCase):
    def test_objects_and_arguments_stay(self):
        steps = list(STEPS)
        telling = Telling(UNDO, WORDS, steps)
        self.assertEqual(telling.walked((0,), (1, 2)), telling.walked((0,), (1, 2)))
        self.assertEqual(telling.led((0,), 1), telling.led((0,), 1))
        self.assertEqual(telling, FREE)
        self.assertEqual(steps, STEPS)


if __name__ == "__main__":
    unittest.main()
