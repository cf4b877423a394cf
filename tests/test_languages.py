"""Point 7: what machines take (with points 1, 2 and 4 as far as they speak of these)."""

import unittest
from random import Random

from normalwords.errors import InvalidNumber, Undefined
from normalwords.languages import (
    both, either, first_unlike, first_word, has_beginnings, is_within, least_machine, without,
    words_of)
from normalwords.machines import Machine
from reference import (
    ODD_VALUES, all_words, no_words, random_machine, random_machines, random_pairs_of_machines,
    taken, takes, taking, unlike_length, words_up_to)

EVEN = Machine(1, [(1,), (0,)], [1, 0])
PAIRS = [(one, other) for one, other in random_pairs_of_machines(2, 120, 2, 4)]


def first_met(machine):
    """The first words of all states, found by trying all words in order."""
    found = {}
    for word in words_up_to(machine.letters, len(machine)):
        state = machine.state_after(word)
        if state is not None and state not in found:
            found[state] = word
    return found


def classes(machine):
    """How many unlike sets of endings, none of them empty, words have."""
    endings = words_up_to(machine.letters, len(machine.table))
    found = set()
    for word in words_up_to(machine.letters, len(machine.table)):
        bits = tuple(takes(machine, word + ending) for ending in endings)
        if any(bits):
            found.add(bits)
    return len(found)


class LeastMachine(unittest.TestCase):
    def test_takes_the_same_words(self):
        for machine in random_machines(3, 120):
            least = least_machine(machine)
            for word in words_up_to(machine.letters, 6):
                self.assertIs(takes(least, word), takes(machine, word))

    def test_has_the_fewest_states_all_live_and_numbered_as_met(self):
        for machine in random_machines(4, 60, 2, 5):
            least = least_machine(machine)
            self.assertEqual(len(least), max(1, classes(machine)))
            met = first_met(least)
            self.assertEqual(list(met), list(range(len(least))))
            if first_word(least) is not None:
                for state in met:
                    moved = Machine(least.letters, least.table, [int(s == state) for s in range(len(least))])
                    self.assertTrue(taken(moved, len(least)))
                    started = [takes(least, met[state] + end) for end in words_up_to(least.letters, len(least))]
                    self.assertTrue(any(started))

    def test_nothing_taken(self):
        nothing = Machine(2, [(None, None)], [0])
        for machine in (Machine(2, [(0, 0)], [0]), Machine(2, [(1, 1), (0, 1)], [0, 0]),
                        Machine(2, [(None, 0), (1, 1)], [0, 1]), nothing):
            self.assertEqual(least_machine(machine), nothing)

    def test_states_that_are_not_live(self):
        # State 1 leads to nothing that is taken, no word leads to state 2.
        machine = Machine(2, [(1, 0), (1, 1), (0, 2)], [1, 0, 1])
        self.assertEqual(least_machine(machine), Machine(2, [(None, 0)], [1]))

    def test_numbers_are_those_of_first_words(self):
        machine = Machine(2, [(2, 1), (None, 3), (3, None), (None, None)], [0, 0, 0, 1])
        self.assertEqual(least_machine(machine),
                         Machine(2, [(1, 2), (3, None), (None, 3), (None, None)], [0, 0, 0, 1]))

    def test_equal_exactly_if_the_same_is_taken(self):
        for one, other in PAIRS:
            same = all(takes(one, word) == takes(other, word)
                       for word in words_up_to(one.letters, unlike_length(one, other)))
            self.assertIs(least_machine(one) == least_machine(other), same)

    def test_two_tellings_of_one_language(self):
        one = Machine(1, [(1,), (2,), (3,), (0,)], [1, 0, 1, 0])
        self.assertNotEqual(one, EVEN)
        self.assertEqual(least_machine(one), EVEN)
        self.assertEqual(least_machine(machine=EVEN), EVEN)

    def test_twice_is_once(self):
        for machine in random_machines(5, 60):
            least = least_machine(machine)
            self.assertEqual(least_machine(least), least)

    def test_large_ones(self):
        # A long chain parts its states one by one.
        states = 1000
        chain = Machine(1, [(s + 1,) for s in range(states - 1)] + [(None,)], [0] * (states - 1) + [1])
        self.assertEqual(least_machine(chain), chain)
        ring = Machine(2, [((s + 1) % 600, (s + 300) % 600) for s in range(600)],
                       [int(s % 3 == 0) for s in range(600)])
        self.assertEqual(len(least_machine(ring)), 3)

    def test_most_letters(self):
        self.assertEqual(least_machine(Machine(48, [(1,) * 48, (0,) * 48], [1, 1])), all_words(48))


class Combined(unittest.TestCase):
    functions = ((both, lambda a, b: a and b), (either, lambda a, b: a or b),
                 (without, lambda a, b: a and not b))

    def test_what_they_take(self):
        for one, other in PAIRS:
            words = words_up_to(one.letters, 6)
            for function, rule in self.functions:
                told = function(one, other)
                self.assertEqual(told, least_machine(told))
                self.assertEqual(told.letters, one.letters)
                for word in words:
                    self.assertIs(takes(told, word), rule(takes(one, word), takes(other, word)))

    def test_by_name(self):
        threes = Machine(1, [(1,), (2,), (0,)], [1, 0, 0])
        sixes = Machine(1, [(1,), (2,), (3,), (4,), (5,), (0,)], [1, 0, 0, 0, 0, 0])
        self.assertEqual(both(one=EVEN, other=threes), sixes)
        self.assertEqual(either(one=EVEN, other=all_words(1)), all_words(1))
        self.assertEqual(without(one=EVEN, other=EVEN), no_words(1))
        self.assertEqual(without(one=all_words(1), other=EVEN), Machine(1, [(1,), (0,)], [0, 1]))

    def test_with_nothing(self):
        nothing = no_words(1)
        self.assertEqual(both(EVEN, nothing), nothing)
        self.assertEqual(either(nothing, EVEN), EVEN)
        self.assertEqual(without(EVEN, nothing), EVEN)
        self.assertEqual(without(nothing, EVEN), nothing)

    def test_unlike_numbers_of_letters(self):
        for function in (both, either, without, first_unlike, is_within):
            with self.assertRaises(Undefined) as caught:
                function(EVEN, all_words(2))
            self.assertEqual(caught.exception.what, "letters")


class FirstWords(unittest.TestCase):
    def test_first_word(self):
        for machine in random_machines(6, 150, 2, 6):
            words = taken(machine, 6)
            self.assertEqual(first_word(machine), words[0] if words else None)

    def test_first_word_edges(self):
        self.assertEqual(first_word(machine=EVEN), ())
        self.assertIsNone(first_word(no_words(3)))
        self.assertEqual(first_word(Machine(2, [(1, 1), (None, 2), (None, None)], [0, 0, 1])), (0, 1))
        self.assertEqual(first_word(Machine(2, [(1, 2), (0, 3), (3, 3), (None, None)], [0, 0, 0, 1])), (0, 1))

    def test_first_unlike(self):
        for one, other in PAIRS:
            unlike = [word for word in words_up_to(one.letters, unlike_length(one, other))
                      if takes(one, word) != takes(other, word)]
            first = unlike[0] if unlike else None
            self.assertEqual(first_unlike(one, other), first)
            self.assertEqual(first_unlike(one=other, other=one), first)

    def test_is_within(self):
        for one, other in PAIRS:
            words = words_up_to(one.letters, unlike_length(one, other))
            told = all(takes(other, word) for word in words if takes(one, word))
            self.assertIs(is_within(one, other), told)
            self.assertIs(is_within(one=both(one, other), other=other), True)

    def test_is_within_edges(self):
        self.assertIs(is_within(no_words(2), no_words(2)), True)
        self.assertIs(is_within(all_words(2), no_words(2)), False)
        self.assertIs(is_within(no_words(2), all_words(2)), True)


class HasBeginnings(unittest.TestCase):
    def test_many_machines(self):
        told = set()
        random = Random(7)
        for _ in range(300):
            machine = random_machine(random, 2, random.randint(1, 3), 0.5)
            words = taken(machine, 6)
            right = () in words and all(word[:n] in words for word in words for n in range(len(word)))
            self.assertIs(has_beginnings(machine), right)
            told.add(right)
        self.assertEqual(told, {True, False})

    def test_edges(self):
        self.assertIs(has_beginnings(no_words(2)), False)
        self.assertIs(has_beginnings(machine=all_words(2)), True)
        self.assertIs(has_beginnings(taking(2, [()])), True)
        self.assertIs(has_beginnings(taking(2, [(0,)])), False)
        self.assertIs(has_beginnings(taking(2, [(), (0, 1)])), False)
        self.assertIs(has_beginnings(taking(2, [(), (0,), (0, 1)])), True)
        # A state with bit 0 that leads to nothing, and one to which nothing leads, tell nothing.
        self.assertIs(has_beginnings(Machine(1, [(1,), (1,), (0,)], [1, 0, 0])), True)


class WordsOf(unittest.TestCase):
    def test_many_machines(self):
        for machine in random_machines(8, 100):
            for length in range(5):
                words = tuple(word for word in taken(machine, length) if len(word) == length)
                self.assertEqual(words_of(machine, length), words)

    def test_length_0(self):
        self.assertEqual(words_of(machine=EVEN, length=0), ((),))
        self.assertEqual(words_of(no_words(1), 0), ())
        self.assertEqual(words_of(taking(1, [(0,)]), 0), ())

    def test_few_words_among_many_beginnings(self):
        # All words lead on, but just one of each length ends well.
        machine = Machine(3, [(1, 0, 2), (1, 1, 1), (2, 2, 2)], [1, 0, 0])
        self.assertEqual(words_of(machine, 6), ((1,) * 6,))
        self.assertEqual(words_of(machine, 40), ((1,) * 40,))

    def test_as_many_as_it_may_be(self):
        words = words_of(all_words(3), 6)
        self.assertEqual(len(words), 729)
        self.assertEqual(list(words), sorted(set(words)))

    def test_wrong_lengths(self):
        for value in (-1, True, False, None, "2", (), (1,), [2], EVEN, -10 ** 20):
            with self.assertRaises(InvalidNumber) as caught:
                words_of(EVEN, value)
            self.assertIs(caught.exception.value, value)

    def test_odd_lengths(self):
        for value in ODD_VALUES:
            with self.assertRaises(InvalidNumber):
                words_of(EVEN, value)


class Basics(unittest.TestCase):
    def test_arguments_stay_and_results_are_the_same_again(self):
        one = Machine(2, [(0, 1), (None, 2), (2, 0)], [1, 0, 1])
        other = Machine(2, [(1, 1), (0, None)], [0, 1])
        copies = [Machine(m.letters, m.table, m.ends) for m in (one, other)]
        for function in (both, either, without, first_unlike, is_within):
            self.assertEqual(function(one, other), function(one, other))
        for function in (least_machine, first_word, has_beginnings):
            self.assertEqual(function(one), function(one))
        self.assertEqual(words_of(one, 3), words_of(one, 3))
        self.assertEqual([one, other], copies)


if __name__ == "__main__":
    unittest.main()
