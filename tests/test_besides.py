"""Point 25: groups beside one another (with points 1, 2 and 4 as far as they speak of these)."""

import unittest
from random import Random

from normalwords.besides import beside
from normalwords.errors import InvalidWord, Undefined
from normalwords.frees import free_group
from normalwords.groups import Group
from normalwords.judging import witness
from normalwords.machines import Machine
from normalwords.rounds import mirrors, round_group, whole_numbers
from normalwords.shortest import are_least, longer_step
from normalwords.tables import table_group
from normalwords.tellings import Telling
from made import TABLES, check_group, check_machines
from samples import GROUPS, PLANE_ROWS, differing, finite, group, group_sample, is_small

NO = None


def made_with():
    """Groups, each with its element of the empty word and what its letters do."""
    found = {name: (group(name), group_sample(name).one, group_sample(name).after)
             for name in GROUPS if longer_step(group(name)) is None}
    for n in (1, 2, 5, 8):
        found[f"round {n}"] = (round_group(n), 0, lambda a, x, n=n: (a + 1 - 2 * x) % n)
    found["whole numbers"] = (whole_numbers(), 0, lambda a, x: a + 1 - 2 * x)
    found["mirrors"] = (mirrors(), (), lambda held, x: held[:-1] if held[-1:] == (x,) else held + (x,))
    swaps = TABLES["swaps"]
    found["table"] = (table_group(swaps, (1, 2)), 0, lambda a, x: swaps[a][(1, 2)[x]])
    return found


def parted(word, letters):
    """The word's letters of one and of other, ahead of one another as they stand."""
    return (tuple(x for x in word if x < letters), tuple(x - letters for x in word if x >= letters))


class Besides(unittest.TestCase):
    def test_two_groups_of_two(self):
        made = beside(round_group(2), table_group(((0, 1), (1, 0)), (1,)))
        self.assertEqual(made.telling.undo, (1, 0, 2))
        self.assertEqual(made.telling.words, Machine(3, [(1, NO, 2), (NO, NO, 2), (NO, NO, NO)], [1, 1, 1]))
        # 2 is 0 beside 2, 3 is 0 beside a blank, 8 is 2 beside 0, 10 is 2 beside 2, 11 is 2 beside
        # a blank, 12 and 14 are a blank beside 0 and 2.
        def row(places):
            return tuple(places.get(letter) for letter in range(15))
        turn = Machine(15, [row({2: 1, 3: 2, 8: 3, 12: 2}), row({11: 2}), row({}), row({14: 2})], [0, 0, 1, 0])
        other = Machine(15, [row({0: 1, 11: 2, 14: 2}), row({11: 2, 14: 2}), row({})], [0, 0, 1])
        self.assertEqual(made.telling.steps, (turn, turn, other))

    def test_groups_of_one_element(self):
        one = table_group(((0,),), (0,))
        self.assertEqual(beside(one, one).telling, Telling((0, 1), Machine(2, [(NO, NO)], [1]),
                                                           [Machine(8, [(NO,) * 8], [1])] * 2))
        made = beside(whole_numbers(), one)
        self.assertEqual([made.normal(word) for word in ((2,), (0, 2, 0), (2, 1))], [(), (0, 0), (1,)])

    def test_plane(self):
        plane = beside(one=whole_numbers(), other=whole_numbers())
        self.assertEqual(plane.telling.undo, (1, 0, 3, 2))
        self.assertEqual(plane.telling.words, Machine(4, PLANE_ROWS, [1] * 5))
        self.assertEqual(plane.normal((2, 0, 3, 0, 0, 1)), (0, 0))
        self.assertIs(plane.equal((0, 2), (2, 0)), True)
        self.assertIs(free_group(2).equal((0, 2), (2, 0)), False)
        self.assertIsNone(witness(plane.telling))
        self.assertIsNone(plane.size())
        sample = differing((1, 0, 3, 2), Machine(4, PLANE_ROWS, [1] * 5), ((1, 0), (-1, 0), (0, 1), (0, -1)),
                           lambda a, b: (a[0] + b[0], a[1] + b[1]), (0, 0), is_small)
        self.assertEqual(plane.telling, sample.telling)

    def test_all_pairs_of_groups(self):
        random = Random(151)
        groups = made_with()
        for one in groups:
            for other in groups:
                first, second = groups[one], groups[other]
                letters = first[0].telling.letters
                if letters + second[0].telling.letters <= 4 and random.random() < 0.25:
                    with self.subTest(one=one, other=other):
                        self.check(first, second, letters, random)

    def check(self, first, second, letters, random):
        made = beside(first[0], second[0])
        shifted = tuple(x + letters for x in second[0].telling.undo)

        def is_normal(word):
            u, w = parted(word, letters)
            shift = tuple(x + letters for x in w)
            return word == u + shift and first[0].telling.words.takes(u) and second[0].telling.words.takes(w)

        def after(held, x):
            if x < letters:
                return (first[2](held[0], x), held[1])
            return (held[0], second[2](held[1], x - letters))

        check_group(self, made, first[0].telling.undo + shifted, is_normal, (first[1], second[1]), after,
                    4 if made.telling.letters < 4 else 3, random)
        for _ in range(5):
            word = tuple(random.randrange(made.telling.letters) for _ in range(40))
            u, w = parted(word, letters)
            right = first[0].normal(u) + tuple(x + letters for x in second[0].normal(w))
            self.assertEqual(made.normal(word), right)

    def test_letters_of_both_commute(self):
        for one, other in ((mirrors(), round_group(5)), (table_group(TABLES["swaps"], (1, 2)), whole_numbers()),
                           (group("modular"), table_group(TABLES["2"], (1,)))):
            made = beside(one, other)
            letters = one.telling.letters
            for x in range(letters):
                for y in range(letters, made.telling.letters):
                    self.assertIs(made.commute((x,), (y,)), True)
            self.assertIs(made.is_commutative(), one.is_commutative() and other.is_commutative())

    def test_sizes(self):
        for n in range(1, 9):
            self.assertEqual(beside(round_group(n), round_group(3)).size(), 3 * n)
        self.assertIsNone(beside(round_group(4), mirrors()).size())
        self.assertIsNone(beside(whole_numbers(), round_group(4)).size())

    def test_with_itself(self):
        for name in ("swaps", "mirrors", "whole"):
            made = group(name)
            check_machines(self, beside(made, made))
            self.assertEqual(beside(made, made).telling.words.letters, 4)

    def test_beside_what_stands_beside(self):
        two = table_group(TABLES["2"], (1,))
        made = beside(beside(two, two), beside(two, two))
        check_machines(self, made)
        self.assertEqual(made.size(), 16)
        self.assertEqual(made, beside(two, beside(two, beside(two, two))))
        self.assertIsNone(longer_step(made))
        self.assertIs(are_least(made), True)

    def test_words_that_are_not_the_first_ones(self):
        turned = finite((0, 1), (0, 0), lambda held, x: tuple(n ^ (x == y) for y, n in enumerate(held)),
                        words=[(), (0,), (1,), (1, 0)])
        made = beside(whole_numbers(), Group(turned.telling))
        check_machines(self, made)
        self.assertEqual(made.normal((2, 3, 0, 2, 0, 2)), (0, 0, 3, 2))

    def test_machines_with_more_states_than_they_need(self):
        words = Machine(2, [(1, 2), (3, NO), (NO, 2), (3, 4), (4, 4)], [1, 1, 1, 1, 0])
        steps = [Machine(8, step.table + ((0,) * 8,), step.ends + (1,)) for step in whole_numbers().telling.steps]
        whole = Group(Telling((1, 0), words, steps))
        self.assertEqual(beside(whole, mirrors()), beside(whole_numbers(), mirrors()))
        self.assertEqual(beside(mirrors(), whole), beside(mirrors(), whole_numbers()))

    def test_groups_stay_as_they_are(self):
        one, other = whole_numbers(), mirrors()
        beside(one, other)
        beside(other, one)
        self.assertEqual(one, whole_numbers())
        self.assertEqual(other, mirrors())

    def test_equal_calls(self):
        self.assertEqual(beside(whole_numbers(), mirrors()), beside(whole_numbers(), mirrors()))
        self.assertNotEqual(beside(whole_numbers(), mirrors()), beside(mirrors(), whole_numbers()))


class Wrong(unittest.TestCase):
    def test_too_many_letters(self):
        one = table_group(TABLES["2"], (1,))
        three = table_group(TABLES["3"], (0, 1, 2))
        for first, second in ((three, three), (free_group(2), one), (one, free_group(2)), (mirrors(), three),
                              (three, whole_numbers()), (free_group(2), free_group(2))):
            with self.assertRaises(Undefined) as caught:
                beside(first, second)
            self.assertEqual(caught.exception.what, "letters")
        check_machines(self, beside(one, three))
        check_machines(self, beside(three, one))

    def test_words_over_the_letters_of_both(self):
        made = beside(mirrors(), table_group(TABLES["2"], (1,)))
        with self.assertRaises(InvalidWord):
            made.normal((3,))


if __name__ == "__main__":
    unittest.main()
