"""Point 10: pair machines as relations (with points 1, 2 and 4 as far as they speak of these)."""

import unittest
from random import Random

from normalwords.errors import InvalidWord
from normalwords.languages import least_machine, without
from normalwords.machines import Machine
from normalwords.pairs import stray_row, takes_pair
from normalwords.relations import (
    all_pairs, behind, equal_pairs, first_led, firsts, second_led, seconds, swapped)
from reference import (
    ODD_VALUES, all_words, beside, no_words, pairing, pairs_up_to, random_machine, random_pair_machine,
    random_pairs, random_words, taken, taken_pairs, takes, taking, words_up_to)

# Whole numbers: letter 0 adds one, letter 1 takes one away; (u, v) if v is u and one more.
PLUS_ONE = Machine(8, [(1, None, None, None, 2, 3, 3, None), (1, None, None, None, None, None, 3, None),
                       (None, None, None, None, 2, 3, None, None), (None,) * 8], [0, 0, 0, 1])
# The same, taking just words of the letter of their sign, as the numbers are written.
NUMBERS = Machine(2, [(1, 2), (1, None), (None, 2)], [1, 1, 1])


def number(word):
    return len(word) if 0 in word else -len(word)


def word_of(number):
    return (0,) * number if number > 0 else (1,) * -number


def random_ones(seed, many, most_states=4):
    """Pair machines, some told by finitely many pairs."""
    random = Random(seed)
    told = []
    for n in range(many):
        letters = random.randint(1, 2)
        if n % 2 == 0:
            told.append((letters, random_pair_machine(random, letters, random.randint(1, most_states), 0.4)))
        else:
            told.append((letters, pairing(letters, random_pairs(random, letters, 8, 4))))
    return told


class Checked(unittest.TestCase):
    def check_pair_machine(self, machine, letters):
        self.assertEqual(machine.letters, (letters + 1) ** 2 - 1)
        self.assertEqual(least_machine(machine), machine)
        self.assertIsNone(stray_row(machine, letters))


class Swapped(Checked):
    def test_many_machines(self):
        for letters, machine in random_ones(31, 80):
            told = swapped(machine, letters)
            self.check_pair_machine(told, letters)
            for u, v in pairs_up_to(letters, 3):
                self.assertIs(takes(told, beside(letters, v, u)), takes(machine, beside(letters, u, v)))
            self.assertEqual(swapped(told, letters), least_machine(machine))

    def test_ordinary_and_empty(self):
        self.assertEqual(swapped(machine=pairing(2, [((0, 1), (1,)), ((), (0,))]), letters=2),
                         least_machine(pairing(2, [((1,), (0, 1)), ((0,), ())])))
        self.assertEqual(swapped(no_words(8), 2), no_words(8))
        minus = swapped(PLUS_ONE, 2)
        self.assertTrue(takes_pair(minus, 2, (0, 0), (0,)))
        self.assertTrue(takes_pair(minus, 2, (), (1,)))


class FirstsAndSeconds(Checked):
    def test_finitely_many_pairs(self):
        random = Random(32)
        for _ in range(60):
            letters = random.randint(1, 3)
            pairs = random_pairs(random, letters, 10, 4)
            machine = pairing(letters, pairs)
            self.assertEqual(firsts(machine, letters), least_machine(taking(letters, [u for u, v in pairs])))
            self.assertEqual(seconds(machine, letters), least_machine(taking(letters, [v for u, v in pairs])))

    def test_many_machines(self):
        random = Random(33)
        for _ in range(60):
            machine = random_pair_machine(random, 1, random.randint(1, 3), 0.4)
            words = words_up_to(1, 4 + len(machine))
            for function, turn in ((firsts, 1), (seconds, -1)):
                told = function(machine, 1)
                self.assertEqual(told, least_machine(told))
                self.assertEqual(told.letters, 1)
                for u in words_up_to(1, 4):
                    right = any(takes(machine, beside(1, *(u, v)[::turn])) for v in words)
                    self.assertIs(takes(told, u), right)

    def test_machines_over_two_letters(self):
        random = Random(34)
        for _ in range(30):
            machine = random_pair_machine(random, 2, random.randint(1, 2), 0.6)
            pairs = taken_pairs(machine, 2, 6)
            for function, side in ((firsts, 0), (seconds, 1)):
                told = function(machine, 2)
                words = {pair[side] for pair in pairs if len(pair[side]) <= 3}
                # Where a longer word is needed beside it, no pair of such short words tells.
                self.assertLessEqual(words, set(taken(told, 3)))
                for word in set(taken(told, 3)) - words:
                    led = first_led(swapped(machine, 2) if side else machine, 2, word)
                    self.assertGreater(len(led), 6)

    def test_edges(self):
        self.assertEqual(firsts(machine=no_words(8), letters=2), no_words(2))
        self.assertEqual(seconds(machine=no_words(8), letters=2), no_words(2))
        self.assertEqual(firsts(pairing(1, [((), ())]), 1), least_machine(taking(1, [()])))
        self.assertEqual(firsts(PLUS_ONE, 2), NUMBERS)
        self.assertEqual(seconds(PLUS_ONE, 2), NUMBERS)
        # The longer word stands on the one side or on the other.
        self.assertEqual(firsts(pairing(2, [((), (1,) * 5)]), 2), least_machine(taking(2, [()])))
        self.assertEqual(seconds(pairing(2, [((), (1,) * 5)]), 2), least_machine(taking(2, [(1,) * 5])))


class Behind(Checked):
    def test_finitely_many_pairs(self):
        random = Random(35)
        some = 0
        for _ in range(120):
            letters = random.randint(1, 2)
            ones = random_pairs(random, letters, 10, 3)
            others = random_pairs(random, letters, 10, 3)
            pairs = sorted({(u, w) for u, v in ones for t, w in others if v == t})
            some += len(pairs) > 0
            told = behind(pairing(letters, ones), pairing(letters, others), letters)
            self.assertEqual(told, least_machine(pairing(letters, pairs)))
            self.check_pair_machine(told, letters)
        self.assertGreater(some, 40)

    def test_many_machines(self):
        random = Random(36)
        for _ in range(60):
            one = random_pair_machine(random, 1, random.randint(1, 2), 0.3)
            other = random_pair_machine(random, 1, random.randint(1, 2), 0.3)
            told = behind(one, other, 1)
            self.check_pair_machine(told, 1)
            middle = words_up_to(1, 3 + len(one) * len(other))
            ones = {(u, v) for u in words_up_to(1, 3) for v in middle if takes(one, beside(1, u, v))}
            others = {(v, w) for v in middle for w in words_up_to(1, 3) if takes(other, beside(1, v, w))}
            for u, w in pairs_up_to(1, 3):
                right = any((u, v) in ones and (v, w) in others for v in middle)
                self.assertIs(takes(told, beside(1, u, w)), right)

    def test_middle_words_longer_than_both(self):
        one = pairing(2, [((0,), (1, 1, 0, 1)), ((), (1,))])
        other = pairing(2, [((1, 1, 0, 1), (1, 1)), ((1,), ())])
        self.assertEqual(behind(one=one, other=other, letters=2),
                         least_machine(pairing(2, [((0,), (1, 1)), ((), ())])))

    def test_middle_words_without_bound(self):
        # (u, v) with v three or more letters longer, then (v, w) with v any and w as long as one.
        longer = Machine(3, [(0, None, 1), (None, None, 2), (None, None, 3), (None, None, 3)], [0, 0, 0, 1])
        shorter = Machine(3, [(1, None, None), (None, 1, None)], [0, 1])
        self.assertEqual(behind(longer, shorter, 1), all_pairs(all_words(1), taking(1, [(0,)])))

    def test_numbers(self):
        two = behind(PLUS_ONE, PLUS_ONE, 2)
        for n in range(-5, 6):
            for m in range(-5, 6):
                self.assertIs(takes_pair(two, 2, word_of(n), word_of(m)), m == n + 2)
        back = behind(PLUS_ONE, swapped(PLUS_ONE, 2), 2)
        self.assertEqual(back, equal_pairs(NUMBERS))

    def test_with_nothing_and_with_equal_pairs(self):
        for letters, machine in random_ones(37, 20):
            nothing = no_words(machine.letters)
            self.assertEqual(behind(machine, nothing, letters), nothing)
            self.assertEqual(behind(nothing, machine, letters), nothing)
            same = equal_pairs(all_words(letters))
            self.assertEqual(behind(machine, same, letters), least_machine(machine))
            self.assertEqual(behind(same, machine, letters), least_machine(machine))

    def test_three_behind_one_another(self):
        for (letters, one), (size, other) in zip(random_ones(38, 30, 2), random_ones(39, 30, 2)):
            if letters == size:
                third = swapped(one, letters)
                self.assertEqual(behind(behind(one, other, letters), third, letters),
                                 behind(one, behind(other, third, letters), letters))


class EqualAndAllPairs(Checked):
    def test_many_machines(self):
        random = Random(40)
        for _ in range(50):
            letters = random.randint(1, 2)
            one = random_machine(random, letters, random.randint(1, 4))
            other = random_machine(random, letters, random.randint(1, 4))
            same = equal_pairs(one)
            both = all_pairs(one, other)
            for machine in (same, both):
                self.check_pair_machine(machine, letters)
            for u, v in pairs_up_to(letters, 4):
                row = beside(letters, u, v)
                self.assertIs(takes(same, row), u == v and takes(one, u))
                self.assertIs(takes(both, row), takes(one, u) and takes(other, v))

    def test_finitely_many_words(self):
        random = Random(41)
        for _ in range(30):
            letters = random.randint(1, 3)
            ones = random_words(random, letters, 4, 5)
            others = random_words(random, letters, 4, 5)
            self.assertEqual(all_pairs(taking(letters, ones), taking(letters, others)),
                             least_machine(pairing(letters, [(u, v) for u in ones for v in others])))
            self.assertEqual(equal_pairs(taking(letters, ones)),
                             least_machine(pairing(letters, [(u, u) for u in ones])))

    def test_edges(self):
        self.assertEqual(equal_pairs(machine=no_words(2)), no_words(8))
        self.assertEqual(all_pairs(one=no_words(2), other=all_words(2)), no_words(8))
        self.assertEqual(all_pairs(all_words(2), no_words(2)), no_words(8))
        self.assertEqual(all_pairs(taking(1, [()]), taking(1, [()])), least_machine(taking(3, [()])))
        self.assertEqual(without(all_words(3), all_pairs(all_words(1), all_words(1))),
                         least_machine(Machine(3, [(0, 1, 2), (3, 1, 3), (3, 3, 2), (3, 3, 3)], [0, 0, 0, 1])))
        self.assertEqual(equal_pairs(all_words(6)).letters, 48)


class Led(unittest.TestCase):
    def check(self, machine, letters, word, words):
        led = [v for v in words if takes(machine, beside(letters, word, v))]
        first = first_led(machine, letters, word)
        second = second_led(machine, letters, word)
        length = len(words[-1])
        for n, found in enumerate((first, second)):
            if n < len(led):
                self.assertEqual(found, led[n])
            elif found is not None:
                self.assertGreater(len(found), length)
                self.assertTrue(takes(machine, beside(letters, word, found)))
        return len(led)

    def test_many_machines(self):
        random = Random(42)
        many = set()
        words = {1: words_up_to(1, 40), 2: words_up_to(2, 7)}
        for _ in range(60):
            letters = random.randint(1, 2)
            machine = random_pair_machine(random, letters, random.randint(1, 4), random.choice((0.4, 0.7)))
            for word in words_up_to(letters, 3):
                many.add(self.check(machine, letters, word, words[letters]))
        self.assertLessEqual({0, 1, 2, 3}, many)

    def test_none_beyond_a_bound_is_none(self):
        random = Random(43)
        for _ in range(60):
            machine = random_pair_machine(random, 1, random.randint(1, 3), 0.5)
            for word in words_up_to(1, 6):
                led = [v for v in words_up_to(1, 40) if takes(machine, beside(1, word, v))]
                self.assertEqual(first_led(machine, 1, word), led[0] if led else None)
                self.assertEqual(second_led(machine, 1, word), led[1] if len(led) > 1 else None)

    def test_none_one_and_many(self):
        machine = pairing(2, [((0,), (1, 1)), ((1,), (1, 0)), ((1,), (0, 1)), ((1,), ()),
                              ((0, 1), (1, 1, 1)), ((0, 1), (0, 1, 1)), ((), (1,)), ((), (0, 0))])
        for word, first, second in [((0,), (1, 1), None), ((1,), (), (0, 1)), ((1, 1), None, None),
                                    ((0, 1), (0, 1, 1), (1, 1, 1)), ((), (1,), (0, 0))]:
            self.assertEqual(first_led(machine, 2, word), first)
            self.assertEqual(second_led(machine=machine, letters=2, word=word), second)
        self.assertEqual(first_led(machine=machine, letters=2, word=(0,)), (1, 1))

    def test_long_words(self):
        word = (0, 1, 1, 0, 1, 0)
        self.assertEqual(first_led(equal_pairs(all_words(2)), 2, word), word)
        self.assertIsNone(second_led(equal_pairs(all_words(2)), 2, word))
        everything = all_pairs(all_words(2), all_words(2))
        self.assertEqual(first_led(everything, 2, word), ())
        self.assertEqual(second_led(everything, 2, word), (0,))
        longest = all_pairs(all_words(2), taking(2, [(1,) * 20, (0,) + (1,) * 20, (1,) * 19 + (0,)]))
        self.assertEqual(first_led(longest, 2, word), (1,) * 19 + (0,))
        self.assertEqual(second_led(longest, 2, word), (1,) * 20)

    def test_endless_machines_with_few_led(self):
        # Behind the word's end a ring without an end must not be followed for ever.
        ring = Machine(3, [(0, None, 1), (None, None, 1), (None,) * 3], [0, 0, 1])
        self.assertIsNone(first_led(ring, 1, (0, 0)))
        threes = Machine(3, [(0, None, 1), (None, None, 2), (None, None, 0)], [1, 0, 0])
        self.assertEqual(first_led(threes, 1, ()), ())
        self.assertEqual(second_led(threes, 1, ()), (0, 0, 0))

    def test_wrong_words(self):
        for function in (first_led, second_led):
            for value in ODD_VALUES + ((2,), [], [0], (0, True)):
                with self.assertRaises(InvalidWord) as caught:
                    function(PLUS_ONE, 2, value)
                self.assertIs(caught.exception.value, value)


class Large(Checked):
    def test_machines_of_six_states(self):
        random = Random(44)
        for _ in range(10):
            letters = 2
            machine = least_machine(random_pair_machine(random, letters, 2, 0.5))
            self.assertLessEqual(len(machine), 6)
            told = firsts(machine, letters)
            for u in words_up_to(letters, 5):
                self.assertIs(takes(told, u), first_led(machine, letters, u) is not None)

    def test_behind_agrees_with_led(self):
        random = Random(45)
        for _ in range(25):
            one = least_machine(random_pair_machine(random, 2, 1, 0.5))
            other = least_machine(random_pair_machine(random, 2, 1, 0.5))
            told = behind(one, other, 2)
            self.assertEqual(firsts(told, 2), firsts(behind(one, equal_pairs(firsts(other, 2)), 2), 2))
            self.assertEqual(seconds(told, 2), firsts(behind(swapped(other, 2), swapped(one, 2), 2), 2))


class Basics(unittest.TestCase):
    def test_arguments_stay_and_results_are_the_same_again(self):
        copy = Machine(PLUS_ONE.letters, PLUS_ONE.table, PLUS_ONE.ends)
        for function in (swapped, firsts, seconds):
            self.assertEqual(function(PLUS_ONE, 2), function(PLUS_ONE, 2))
        self.assertEqual(behind(PLUS_ONE, PLUS_ONE, 2), behind(copy, copy, 2))
        self.assertEqual(all_pairs(NUMBERS, NUMBERS), all_pairs(NUMBERS, NUMBERS))
        self.assertEqual(PLUS_ONE, copy)


if __name__ == "__main__":
    unittest.main()
