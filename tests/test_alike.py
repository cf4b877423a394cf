"""Point 16: groups that are alike (with points 1, 2 and 4 as far as they speak of these)."""

import unittest
from itertools import combinations

from normalwords.alike import are_alike, unlike_word
from normalwords.edgewords import edge_words
from normalwords.errors import Undefined
from normalwords.groups import Group
from reference import words_up_to
from samples import GROUPS, group, group_sample, rounds


class Alike(unittest.TestCase):
    def check(self, one, other, right):
        self.assertEqual(unlike_word(one, other), right)
        self.assertIs(are_alike(one, other), right is None)

    def test_a_group_and_itself(self):
        for name in GROUPS:
            with self.subTest(name=name):
                self.check(group(name), Group(group_sample(name).telling), None)

    def test_other_normal_words(self):
        self.check(group("plane"), group("plane, turned"), None)
        self.check(group("swaps"), group("swaps, deep"), None)
        seven = Group(rounds(7, (1, 6, 2, 5), (1, 0, 3, 2)).telling)
        self.assertNotEqual(seven, group("seven, deep"))
        self.check(seven, group("seven, deep"), None)

    def test_a_rule_more(self):
        self.check(group("free"), group("plane"), (0, 2, 1, 3))
        self.check(group("plane"), group("free"), (0, 2, 1, 3))
        self.check(group("mirrors"), group("swaps"), (0, 1, 0, 1, 0, 1))
        self.check(group("swaps"), group("mirrors"), (0, 1, 0, 1, 0, 1))
        self.check(group("far"), group("seven, deep"), (0,) * 7)
        self.check(group("seven, deep"), group("far"), (0,) * 7)
        self.check(group("plane"), group("bottle"), (0, 2, 1, 3))
        self.check(group("bottle"), group("plane"), (0, 2, 0, 3))

    def test_the_word_of_one_stands_ahead(self):
        # Both have words that are not nothing in the other one: that of the first one is told,
        # even where the second one's is shorter.
        four, six = [Group(rounds(n, (1, n - 1), (1, 0)).telling) for n in (4, 6)]
        self.check(four, six, (0,) * 4)
        self.check(six, four, (0,) * 6)

    def test_one_element_and_no_rules(self):
        one, whole = Group(group_sample("one, two letters").telling), group("whole")
        self.check(one, whole, (0,))
        self.check(whole, one, (0,))
        self.check(Group(group_sample("one").telling), group("two"), (0,))

    def test_by_name(self):
        self.assertEqual(unlike_word(one=group("free"), other=group("plane")), (0, 2, 1, 3))
        self.assertIs(are_alike(one=group("free"), other=group("free")), True)

    def test_other_letters(self):
        for one, other in (("whole", "mirrors"), ("whole", "free"), ("one", "whole"),
                           ("modular", "free with a mirror")):
            for call in (unlike_word, are_alike):
                with self.assertRaises(Undefined) as caught:
                    call(group(one), group(other))
                self.assertEqual(caught.exception.what, "letters")

    def test_none_exactly_if_the_same_words_are_nothing(self):
        met = set()
        for one, other in combinations(GROUPS, 2):
            first, second = group_sample(one), group_sample(other)
            if first.telling.undo != second.telling.undo:
                continue
            with self.subTest(one=one, other=other):
                length = 8 if first.telling.letters < 3 else 5 if first.telling.letters < 4 else 4
                words = list(words_up_to(first.telling.letters, length))
                words += edge_words(first.telling) + edge_words(second.telling)
                same = all((first.element(word) == first.one) == (second.element(word) == second.one)
                           for word in words)
                self.assertEqual(are_alike(group(one), group(other)), same)
                self.assertEqual(are_alike(group(other), group(one)), same)
                met.add(same)
        self.assertEqual(met, {True, False})

    def test_arguments_stay_and_results_are_equal(self):
        one, other = [Group(group_sample(name).telling) for name in ("free", "plane")]
        self.assertEqual(unlike_word(one, other), unlike_word(one, other))
        self.assertEqual((one, other), (group("free"), group("plane")))


if __name__ == "__main__":
    unittest.main()
