"""Point 25: groups freely joined (with points 1, 2 and 4 as far as they speak of these)."""

import unittest
from random import Random

from normalwords.errors import InvalidWord, Undefined
from normalwords.frees import free_group
from normalwords.groups import Group
from normalwords.joins import joined
from normalwords.judging import witness
from normalwords.machines import Machine
from normalwords.rounds import mirrors, round_group, whole_numbers
from normalwords.shortest import are_least, are_shortest, longer_step
from normalwords.tables import table_group
from normalwords.tellings import Telling
from made import TABLES, check_group, check_machines
from samples import finite, group
from test_besides import made_with

NO = None


def two():
    return table_group(TABLES["2"], (1,))


def parts_by_turns(word, letters):
    """The word, parted where letters of one and of other meet: pairs of whether it is a part of
    other, and its letters as they are there."""
    told = []
    for x in word:
        if not told or told[-1][0] != (x >= letters):
            told.append((x >= letters, ()))
        told[-1] = (told[-1][0], told[-1][1] + (x - letters if x >= letters else x,))
    return told


class Joins(unittest.TestCase):
    def test_two_groups_of_two(self):
        self.assertEqual(joined(two(), two()), mirrors())

    def test_whole_numbers(self):
        self.assertEqual(joined(one=whole_numbers(), other=whole_numbers()), free_group(2))

    def test_machines(self):
        made = joined(round_group(3), two())
        self.assertEqual(made.telling.undo, (1, 0, 2))
        self.assertEqual(made.telling.words, Machine(3, [(1, 1, 2), (NO, NO, 2), (1, 1, NO)], [1, 1, 1]))

        def row(places):
            return tuple(places.get(letter) for letter in range(15))
        # 0 is 0 beside 0, 1 is 0 beside 1, 3 is 0 beside a blank, 5 is 1 beside 1, 7 is 1 beside a
        # blank, 10 is 2 beside 2, 11 is 2 beside a blank, 12 and 14 are a blank beside 0 and 2.
        up = Machine(15, [row({0: 1, 1: 2, 5: 1, 7: 2, 10: 3, 12: 2}), row({10: 3}), row({}),
                          row({0: 1, 1: 2, 5: 1, 7: 2, 12: 2})], [0, 0, 1, 0])
        turn = Machine(15, [row({0: 1, 5: 1, 10: 2, 11: 3, 14: 3}), row({10: 2, 11: 3, 14: 3}), row({0: 1, 5: 1}),
                            row({})], [0, 0, 0, 1])
        self.assertEqual((made.telling.steps[0], made.telling.steps[2]), (up, turn))

    def test_groups_of_one_element(self):
        one = table_group(TABLES["1"], (0,))
        made = joined(one, one)
        self.assertEqual(made.telling, Telling((0, 1), Machine(2, [(NO, NO)], [1]), [Machine(8, [(NO,) * 8], [1])] * 2))
        for first, second in ((one, mirrors()), (mirrors(), one), (round_group(1), round_group(3))):
            check_machines(self, joined(first, second))
        made = joined(whole_numbers(), one)
        self.assertEqual([made.normal(word) for word in ((2,), (0, 2, 0), (2, 1))], [(), (0, 0), (1,)])

    def test_all_pairs_of_groups(self):
        random = Random(161)
        groups = made_with()
        for one in groups:
            for other in groups:
                first, second = groups[one], groups[other]
                if first[0].telling.letters + second[0].telling.letters <= 4 and random.random() < 0.25:
                    with self.subTest(one=one, other=other):
                        self.check((first, second), first[0].telling.letters, random)

    def check(self, both, letters, random):
        made = joined(both[0][0], both[1][0])
        shifted = tuple(x + letters for x in both[1][0].telling.undo)

        def is_normal(word):
            return all(both[place][0].telling.words.takes(part) for place, part in parts_by_turns(word, letters))

        # An element is told by turns: pairs of whether it is one of other, and which one.
        def after(held, x):
            place = x >= letters
            _, one, led = both[place]
            last = held[-1][1] if held and held[-1][0] == place else one
            ahead = held[:-1] if held and held[-1][0] == place else held
            there = led(last, x - letters if place else x)
            return ahead if there == one else ahead + ((place, there),)

        check_group(self, made, both[0][0].telling.undo + shifted, is_normal, (), after,
                    4 if made.telling.letters < 4 else 3, random)

    def test_normal_words_by_turns(self):
        made = joined(round_group(4), round_group(3))
        self.assertEqual(made.normal((0, 0, 0, 2, 2, 1, 0, 3, 3)), (1,))
        self.assertEqual(made.normal((0, 0, 0, 2, 2, 0, 3)), (1, 3, 0, 3))
        self.assertEqual(made.normal((2, 0, 1, 2, 2, 0, 0, 1)), (0,))
        self.assertIs(made.commute((0,), (2,)), False)
        self.assertIs(made.is_commutative(), False)
        self.assertIsNone(made.size())

    def test_orders(self):
        made = joined(round_group(4), round_group(3))
        self.assertEqual([made.order(word, 40) for word in ((0,), (2,), (2, 0, 3), (0, 2))], [4, 3, 4, None])

    def test_with_itself(self):
        for name in ("swaps", "mirrors", "whole"):
            made = group(name)
            check_machines(self, joined(made, made))
            self.assertEqual(joined(made, made).telling.words.letters, 4)

    def test_joined_to_what_is_joined(self):
        self.assertEqual(joined(joined(two(), two()), two()), joined(two(), joined(two(), two())))
        self.assertEqual(joined(mirrors(), mirrors()), joined(joined(mirrors(), two()), two()))
        for made in (joined(mirrors(), mirrors()), joined(round_group(8), round_group(7))):
            self.assertIsNone(longer_step(made))
            self.assertIs(are_shortest(made), True)
            self.assertIs(are_least(made), True)
            self.assertIsNone(witness(made.telling))

    def test_words_that_are_not_the_first_ones(self):
        # Shortest words, but of two letters that commute the greater one stands ahead.
        turned = finite((0, 1), (0, 0), lambda held, x: tuple(n ^ (x == y) for y, n in enumerate(held)),
                        words=[(), (0,), (1,), (1, 0)])
        made = joined(Group(turned.telling), two())
        check_machines(self, made)
        self.assertEqual(made.normal((0, 1, 2, 0, 1, 0, 2, 1, 0, 1)), (1, 0, 2, 1, 2, 0))
        self.assertIs(are_least(made), False)

    def test_machines_with_more_states_than_they_need(self):
        steps = [Machine(8, step.table + ((0,) * 8,), step.ends + (1,)) for step in whole_numbers().telling.steps]
        words = Machine(2, [(1, 2), (3, NO), (NO, 2), (3, 4), (4, 4)], [1, 1, 1, 1, 0])
        whole = Group(Telling((1, 0), words, steps))
        self.assertEqual(joined(whole, whole), free_group(2))

    def test_groups_stay_as_they_are(self):
        one, other = whole_numbers(), mirrors()
        joined(one, other)
        joined(other, one)
        self.assertEqual(one, whole_numbers())
        self.assertEqual(other, mirrors())

    def test_equal_calls(self):
        self.assertEqual(joined(whole_numbers(), mirrors()), joined(whole_numbers(), mirrors()))
        self.assertNotEqual(joined(whole_numbers(), mirrors()), joined(mirrors(), whole_numbers()))


class Wrong(unittest.TestCase):
    def test_too_many_letters(self):
        three = table_group(TABLES["3"], (0, 1, 2))
        for first, second in ((three, three), (free_group(2), two()), (two(), free_group(2)), (mirrors(), three),
                              (three, whole_numbers()), (free_group(2), free_group(2))):
            with self.assertRaises(Undefined) as caught:
                joined(first, second)
            self.assertEqual(caught.exception.what, "letters")
        check_machines(self, joined(two(), three))
        check_machines(self, joined(three, two()))

    def test_words_over_the_letters_of_both(self):
        with self.assertRaises(InvalidWord):
            joined(mirrors(), two()).normal((3,))


if __name__ == "__main__":
    unittest.main()
