"""Point 26: exchanges and last forms (with points 1, 2 and 4 as far as they speak of these)."""

import unittest
from random import Random

from normalwords.errors import InvalidRules, InvalidWord
from normalwords.machines import Machine
from normalwords.rewriting import last_form, two_forms
from exchanging import COMPLETE, LOOSE, is_last, last_forms
from reference import ODD_VALUES, words_up_to

UNDOS = ((0,), (1, 0), (0, 1), (0, 2, 1), (0, 1, 2), (1, 0, 3, 2), (0, 1, 3, 2), (0, 1, 2, 3))


def random_exchange(random, letters, most):
    while True:
        size = random.randint(1, most)
        left = tuple(random.randrange(letters) for _ in range(size))
        right = tuple(random.randrange(letters) for _ in range(random.randint(max(0, size - 2), size)))
        if (len(right), right) < (len(left), left):
            return (left, right)


def random_exchanges(random, letters, many, most):
    return [random_exchange(random, letters, most) for _ in range(random.randint(0, many))]


class LastForms(unittest.TestCase):
    def test_the_empty_word(self):
        for undo, exchanges, _, _ in COMPLETE.values():
            self.assertEqual(last_form(undo, exchanges, ()), ())

    def test_words_that_only_undoing_changes(self):
        self.assertEqual(last_form((1, 0), [], (0, 0, 1, 0)), (0, 0))
        self.assertEqual(last_form((1, 0, 2), [((2, 0), (0, 2))], (1, 0, 2, 2, 0, 1)), ())
        self.assertEqual(last_form(undo=(0, 1), exchanges=(), word=(1, 0, 0, 1, 0)), (0,))

    def test_exchanges(self):
        self.assertEqual(last_form((1, 0, 3, 2), COMPLETE["plane"][1], (2, 0, 3, 0, 0, 1)), (0, 0))
        self.assertEqual(last_form((0, 1), [((1, 0, 1), (0, 1, 0))], (1, 0, 1, 0)), (0, 1))
        # A right side makes a left side with what stands ahead, and with what comes behind.
        self.assertEqual(last_form((0, 1, 2), [((2,), (1,)), ((0, 1, 0), ())], (0, 2, 0, 0)), (0,))
        self.assertEqual(last_form((1, 0), [((0, 0, 0, 0), (1,)), ((1, 1), (0,))], (0,) * 9 + (1, 1, 1)), (1,))

    def test_right_sides_that_can_be_exchanged(self):
        self.assertEqual(last_form((0, 1, 2), [((2, 2, 1), (1, 0, 0)), ((1,), (0,))], (2, 2, 1)), (0,))
        self.assertEqual(last_form((0, 1, 2), [((2, 0), (1, 1)), ((1, 0), (0, 1))], (2, 0, 2, 0, 1, 0)), (0, 1))

    def test_words_with_several_last_forms(self):
        for undo, exchanges, word in LOOSE.values():
            forms = last_forms(undo, exchanges, word)
            self.assertGreater(len(forms), 1)
            self.assertIn(last_form(undo, exchanges, word), forms)

    def test_complete_exchanges(self):
        for undo, exchanges, _, _ in COMPLETE.values():
            for word in words_up_to(len(undo), 6 if len(undo) < 3 else 4):
                self.assertEqual({last_form(undo, exchanges, word)}, last_forms(undo, exchanges, word))

    def test_random_exchanges(self):
        random = Random(171)
        many = []
        for _ in range(250):
            undo = random.choice(UNDOS)
            exchanges = random_exchanges(random, len(undo), 5, 4)
            word = tuple(random.randrange(len(undo)) for _ in range(random.randint(0, 9)))
            forms = last_forms(undo, exchanges, word)
            self.assertIn(last_form(undo, exchanges, word), forms)
            many.append(len(forms))
        self.assertGreater(len([n for n in many if n > 1]), 30)

    def test_long_words_and_sides(self):
        random = Random(172)
        for _ in range(300):
            undo = random.choice(UNDOS)
            exchanges = [random_exchange(random, len(undo), 6) for _ in range(8)]
            word = tuple(random.randrange(len(undo)) for _ in range(12))
            found = last_form(undo, tuple(exchanges), word)
            self.assertTrue(is_last(undo, exchanges, found))
            self.assertLessEqual((len(found), found), (len(word), word))

    def test_equal_calls(self):
        undo, exchanges, word = LOOSE["equal left sides"]
        self.assertEqual(last_form(undo, exchanges, word), last_form(undo, tuple(exchanges), word))


class TwoForms(unittest.TestCase):
    def right(self, undo, exchanges, found):
        self.assertIsInstance(found, tuple)
        word, one, other = found
        self.assertIsInstance(word, tuple)
        self.assertLessEqual(len(word), 11)
        self.assertNotEqual(one, other)
        self.assertLessEqual({one, other}, last_forms(undo, exchanges, word))

    def test_complete_exchanges(self):
        for undo, exchanges, _, _ in COMPLETE.values():
            self.assertIsNone(two_forms(undo, exchanges))
            self.assertIsNone(two_forms(undo=undo, exchanges=tuple(exchanges)))

    def test_loose_exchanges(self):
        for name, (undo, exchanges, word) in LOOSE.items():
            with self.subTest(name=name):
                self.right(undo, exchanges, two_forms(undo, exchanges))

    def test_the_only_meetings(self):
        # Two exchanges, of which just one word of the listed kinds tells that they are loose.
        for undo, exchanges in (((0, 1, 2), [((2, 1, 2), (0,)), ((2, 1, 2), (1,))]),
                                ((1, 0, 2), [((2, 0, 2), (2,))]),
                                ((0, 1, 2), [((2, 1, 0, 1), (1,))]),
                                ((1, 0), [((1, 1, 1, 1), (0,))]),
                                ((0, 1, 2, 3), [((3, 2, 1, 0), (3,)), ((2, 1), (1, 2))]),
                                ((0, 1, 2, 3), [((3, 2, 1, 0, 1, 0), (3,)), ((0, 1, 0, 2, 3, 2), (2,))])):
            found = two_forms(undo, exchanges)
            self.assertIsNotNone(found)
            self.right(undo, exchanges, found)

    def test_exchanges_that_are_there_twice(self):
        self.assertIsNone(two_forms((0, 1), [((1, 0, 1), (0, 1, 0))] * 2))
        self.assertIsNone(two_forms((1, 0), [((0, 1), ()), ((1, 0), ())]))
        self.assertIsNone(two_forms((0,), [((0,), ()), ((0,), ()), ((0, 0), (0,))]))

    def test_a_left_side_within_another_that_does_no_harm(self):
        self.assertIsNone(two_forms((0, 1), [((0, 1, 0), (1,)), ((0,), ())]))
        self.assertIsNone(two_forms((0, 1), [((1, 0, 1, 0), (0, 1)), ((1, 0, 1), (0, 1, 0))]))

    def test_meetings_of_eleven_letters(self):
        undo = (0, 1, 2, 3)
        exchanges = [((3, 2, 1, 3, 1, 2), (0, 1)), ((2, 0, 1, 0, 1, 3), (1, 2, 0))]
        found = two_forms(undo, exchanges)
        self.right(undo, exchanges, found)

    def test_random_exchanges(self):
        random = Random(173)
        met = []
        for _ in range(500):
            undo = random.choice(UNDOS)
            exchanges = random_exchanges(random, len(undo), 4, 4)
            found = two_forms(undo, exchanges)
            met.append(found is None)
            if found is None:
                length = {1: 9, 2: 8, 3: 5, 4: 4}[len(undo)]
                for word in words_up_to(len(undo), length):
                    self.assertEqual(len(last_forms(undo, exchanges, word)), 1, (undo, exchanges, word))
            else:
                self.right(undo, exchanges, found)
        self.assertGreater(met.count(True), 60)
        self.assertGreater(met.count(False), 60)

    def test_equal_calls(self):
        for undo, exchanges, _ in LOOSE.values():
            self.assertEqual(two_forms(undo, exchanges), two_forms(undo, tuple(exchanges)))


# Values that are no exchange over the letters 0 and 1.
NO_EXCHANGES = (
    [(1,), ()], ((1,),), ((1,), (), ()), (), ((1,), [0]), ([1], (0,)), ((2,), ()), ((1, 2), (0,)), ((1,), (2,)),
    ((0,), (1,)), ((0,), (0,)), ((), ()), ((0,), (0, 0)), ((0, 1), (1, 0)), ((), (0,)), ((True,), ()), ((1,), (False,)),
    ((1,), None), (None, ()), "10", ((-1,), ()), ((1,), "0"), (1, 0), 1, Machine(1, [(0,)], [1]), ((1, 0), ((0,),)))


def places_of_wrong_exchanges():
    """Exchanges over the letters 0 and 1 with something wrong, and the first place of it."""
    for value in ODD_VALUES + (Machine(1, [(0,)], [1]), {}, 3):
        yield value, 0
    for wrong in NO_EXCHANGES:
        yield [wrong], 0
        yield (((1,), (0,)), wrong), 1
        yield [((1, 0), (0, 1)), ((1,), ()), wrong, wrong], 2


class Wrong(unittest.TestCase):
    def test_exchanges(self):
        for exchanges, place in places_of_wrong_exchanges():
            for call in (lambda: last_form((1, 0), exchanges, ()), lambda: two_forms((1, 0), exchanges),
                         lambda: last_form(undo=(1, 0), exchanges=exchanges, word="no word")):
                with self.subTest(exchanges=exchanges):
                    with self.assertRaises(InvalidRules) as caught:
                        call()
                    self.assertEqual(caught.exception.place, place)

    def test_words(self):
        for word in ODD_VALUES + ([], [0], (2,), (0, 2), "0", 0):
            with self.assertRaises(InvalidWord) as caught:
                last_form((1, 0), [((0, 0), (1,))], word)
            self.assertIs(caught.exception.value, word)

    def test_letters_that_only_other_undos_have(self):
        with self.assertRaises(InvalidRules) as caught:
            two_forms((0,), [((0, 0, 0), ()), ((1,), ())])
        self.assertEqual(caught.exception.place, 1)
        self.assertEqual(last_form((0, 1, 2), [((2, 1), (1, 2))], (2, 1, 2)), (1,))

    def test_arguments_stay_as_they_are(self):
        exchanges = [((1, 0), (0, 1))]
        last_form((0, 1), exchanges, (1, 0, 1))
        two_forms((0, 1), exchanges)
        self.assertEqual(exchanges, [((1, 0), (0, 1))])


if __name__ == "__main__":
    unittest.main()
