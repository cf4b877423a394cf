"""Point 20: balls and spheres (with points 1, 2 and 4 as far as they speak of these)."""

import unittest
from random import Random

from normalwords.balls import ball, least_word, sphere
from normalwords.counts import count
from normalwords.errors import InvalidNumber, InvalidWord
from normalwords.groups import Group
from normalwords.shortest import are_shortest
from normalwords.words import is_ahead
from reference import ODD_VALUES, words_up_to
from samples import GROUPS, group, group_sample


def plain_firsts(sample, length):
    """For each element of a word of at most so many letters the first word."""
    firsts = {}
    for word in words_up_to(sample.telling.letters, length):
        firsts.setdefault(sample.element(word), word)
    return firsts


class BallsAndSpheres(unittest.TestCase):
    def check_order(self, words):
        self.assertIsInstance(words, tuple)
        for one, other in zip(words, words[1:]):
            self.assertTrue(is_ahead(one, other))

    def test_all_groups(self):
        for name in GROUPS:
            with self.subTest(name=name):
                sample, made = group_sample(name), group(name)
                firsts = plain_firsts(sample, 4)
                for radius in range(5):
                    right = {made.normal(word) for word in firsts.values() if len(word) <= radius}
                    self.assertEqual(set(ball(made, radius)), right)
                    self.check_order(ball(made, radius))
                    right = {made.normal(word) for word in firsts.values() if len(word) == radius}
                    self.assertEqual(set(sphere(made, radius)), right)
                    self.check_order(sphere(made, radius))

    def test_by_hand(self):
        whole = group("whole")
        self.assertEqual(ball(whole, 0), ((),))
        self.assertEqual(sphere(whole, 0), ((),))
        self.assertEqual(ball(whole, 2), ((), (0,), (1,), (0, 0), (1, 1)))
        self.assertEqual(sphere(group=whole, radius=2), ((0, 0), (1, 1)))
        self.assertEqual(ball(group=whole, radius=1), ((), (0,), (1,)))
        self.assertEqual(len(ball(group("free"), 4)), 161)
        self.assertEqual(len(sphere(group("plane"), 4)), 16)

    def test_normal_words_that_are_not_shortest(self):
        far = group("far")
        self.assertEqual(sphere(far, 1), ((0,), (1,), (0, 0), (1, 1)))
        self.assertEqual(sphere(far, 2), ((0,) * 3, (1,) * 3, (0,) * 4, (1,) * 4))
        self.assertEqual(ball(far, 1), ((), (0,), (1,), (0, 0), (1, 1)))

    def test_finite_groups(self):
        self.assertEqual([len(sphere(group("swaps"), n)) for n in range(5)], [1, 2, 2, 1, 0])
        self.assertEqual([len(ball(group("swaps"), n)) for n in range(5)], [1, 3, 5, 6, 6])
        self.assertEqual(sphere(group("one"), 1), ())
        self.assertEqual(ball(group("one"), 4), ((),))
        self.assertEqual(sphere(group("two"), 10 ** 20), ())
        self.assertEqual(ball(group("two"), 10 ** 20), ((), (0,)))

    def test_shortest_words_are_counted(self):
        for name in GROUPS:
            made = group(name)
            if are_shortest(made):
                for n in range(5):
                    self.assertEqual(len(sphere(made, n)), count(made.telling.words, n))

    def test_wrong_numbers(self):
        for value in ODD_VALUES + ("1", (1,), [1]):
            for call in (ball, sphere):
                with self.assertRaises(InvalidNumber) as caught:
                    call(group("plane"), value)
                self.assertIs(caught.exception.value, value)


class LeastWord(unittest.TestCase):
    def test_all_groups(self):
        random = Random(111)
        for name in GROUPS:
            with self.subTest(name=name):
                sample, made = group_sample(name), group(name)
                firsts = plain_firsts(sample, 4)
                for word in list(firsts.values())[:150]:
                    self.assertEqual(least_word(made, word), word)
                    self.assertEqual(least_word(made, made.normal(word)), word)
                for _ in range(10):
                    word = tuple(random.randrange(made.telling.letters) for _ in range(4))
                    self.assertEqual(least_word(made, word), firsts[sample.element(word)])

    def test_by_hand(self):
        self.assertEqual(least_word(group("plane"), ()), ())
        self.assertEqual(least_word(group("plane"), (0, 2, 1, 3)), ())
        self.assertEqual(least_word(group=group("plane, turned"), word=(2, 0)), (0, 2))
        # Longer than its normal word, and shorter.
        self.assertEqual(least_word(group("whole"), (0, 1, 1)), (1,))
        self.assertEqual(least_word(group("far"), (0, 0, 0, 0, 0)), (0, 2, 2))
        self.assertEqual(least_word(group("far"), (1,) * 12), (3,) * 6)
        self.assertEqual(least_word(group("seven, deep"), (0, 0, 0, 0, 0, 0)), (1,))
        self.assertEqual(least_word(group("free"), (0, 2, 0, 2, 0, 2)), (0, 2, 0, 2, 0, 2))
        self.assertEqual(least_word(group("triangle 2 4 4"), (1, 0, 1, 0, 1)), (1,))

    def test_long_words(self):
        self.assertEqual(least_word(group("plane"), (0, 2, 1, 3) * 10), ())
        self.assertEqual(least_word(group("swaps"), (0, 1) * 20), (1, 0))

    def test_wrong_words(self):
        for value in ODD_VALUES + ((4,), [], [0], (0, True), "00"):
            with self.assertRaises(InvalidWord) as caught:
                least_word(group("plane"), value)
            self.assertIs(caught.exception.value, value)


class Basics(unittest.TestCase):
    def test_arguments_stay_and_results_are_equal(self):
        made = Group(group_sample("plane").telling)
        self.assertEqual(ball(made, 3), ball(made, 3))
        self.assertEqual(sphere(made, 3), sphere(made, 3))
        self.assertEqual(least_word(made, (2, 0)), least_word(made, (2, 0)))
        self.assertEqual(made, group("plane"))


if __name__ == "__main__":
    unittest.main()
