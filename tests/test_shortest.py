"""Point 19: whether normal words are the shortest, and the first ones (with points 1, 2 and 4 as
far as they speak of these)."""

import unittest

from normalwords.errors import Undefined
from normalwords.groups import Group
from normalwords.shortest import are_least, are_shortest, greater_step, longer_step
from normalwords.words import is_ahead
from reference import words_up_to
from samples import GROUPS, finite, group, group_sample, permuted, rounds

# Groups whose normal words are not the shortest ones, and such whose normal words are these, but
# not the first ones.
LONGER = ("seven, deep", "swaps, deep", "far")
LATER = ("plane, turned",)


def plain_answers(sample):
    """Whether normal words are shortest, and least, as far as all short words tell."""
    length = {1: 5, 2: 7, 3: 6, 4: 5}[sample.telling.letters]
    firsts = {}
    for word in words_up_to(sample.telling.letters, length):
        firsts.setdefault(sample.element(word), word)
    pairs = [(sample.telling.walked((), word), word) for word in firsts.values()]
    return all(len(normal) <= len(word) for normal, word in pairs), all(normal == word for normal, word in pairs)


class Answers(unittest.TestCase):
    def test_all_groups(self):
        for name in GROUPS:
            with self.subTest(name=name):
                self.assertIs(are_shortest(group(name)), name not in LONGER)
                self.assertIs(are_least(group(name)), name not in LONGER + LATER)
                self.assertEqual((are_shortest(group(name)), are_least(group(name))),
                                 plain_answers(group_sample(name)))

    def test_longer_steps(self):
        for name in GROUPS:
            made = group(name)
            found = longer_step(made)
            if name not in LONGER:
                self.assertIsNone(found)
                continue
            x, u, v = found
            self.assertTrue(made.telling.words.takes(u))
            self.assertEqual(made.telling.led(u, x), v)
            self.assertGreaterEqual(len(v), len(u) + 2)

    def test_greater_steps(self):
        for name in GROUPS:
            made = group(name)
            if name in LONGER:
                with self.assertRaises(Undefined) as caught:
                    greater_step(made)
                self.assertEqual(caught.exception.what, "shortest")
                continue
            found = greater_step(made)
            if name not in LATER:
                self.assertIsNone(found)
                continue
            x, u, v = found
            self.assertEqual(made.telling.led(u, x), v)
            self.assertEqual(len(v), len(u) + 1)
            self.assertTrue(is_ahead(u + (x,), v))

    def test_by_name(self):
        self.assertIsNone(longer_step(group=group("plane")))
        self.assertIs(are_shortest(group=group("far")), False)
        self.assertIsNone(greater_step(group=group("plane")))
        self.assertIs(are_least(group=group("plane, turned")), False)

    def test_normal_words_of_finite_groups(self):
        # Letters in any order: what is first depends on it.
        met = set()
        for is_deep in (False, True):
            for adds, undo in (((1, 5), (1, 0)), ((5, 1), (1, 0)), ((2, 4, 3), (1, 0, 2)), ((3, 2, 4), (0, 2, 1)),
                               ((1, 5, 2, 4), (1, 0, 3, 2)), ((0, 1, 5), (0, 2, 1))):
                sample = rounds(6, adds, undo, is_deep)
                answers = plain_answers(sample)
                made = Group(sample.telling)
                self.assertEqual((are_shortest(made), are_least(made)), answers)
                met.add(answers)
        self.assertEqual(met, {(True, True), (False, False)})

    def test_where_all_is_right_at_first(self):
        # Eight elements, told by which of the letters 0, 1, 2 their words have an odd number of.
        def eight(words):
            return finite((0, 1, 2), 0, lambda held, x: held ^ (1 << x), words=words)

        short = [(), (0,), (1,), (2,), (0, 1), (0, 2)]
        later = eight(short + [(1, 2), (0, 2, 1)])
        self.assertEqual(plain_answers(later), (True, False))
        self.assertEqual(greater_step(Group(later.telling)), (2, (0, 1), (0, 2, 1)))
        self.assertFalse(are_least(Group(later.telling)))
        longer = eight(short + [(0, 1, 2), (0, 1, 2, 0)])
        self.assertEqual(plain_answers(longer), (False, False))
        self.assertIn(longer_step(Group(longer.telling)), ((2, (1,), (0, 1, 2, 0)), (1, (2,), (0, 1, 2, 0))))
        self.assertFalse(are_shortest(Group(longer.telling)))
        least = eight(short + [(1, 2), (0, 1, 2)])
        self.assertTrue(are_least(Group(least.telling)))

    def test_just_one_letter_more_than_is_needed(self):
        # v may have one letter more than u: the words need not be longer than others for it.
        self.assertTrue(are_least(group("whole")))
        three = permuted((1, 0), ((1, 2, 0), (2, 0, 1)), is_deep=True)
        self.assertEqual(Group(three.telling).normal((1,)), (0, 0))
        self.assertEqual(longer_step(Group(three.telling)), (1, (), (0, 0)))
        self.assertFalse(are_shortest(Group(three.telling)))

    def test_arguments_stay_and_results_are_equal(self):
        made = Group(group_sample("plane, turned").telling)
        self.assertEqual(greater_step(made), greater_step(made))
        self.assertEqual(longer_step(made), longer_step(made))
        self.assertEqual(made, group("plane, turned"))


if __name__ == "__main__":
    unittest.main()
