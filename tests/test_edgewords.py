"""Point 15: ring forms and edge words (with points 1, 2 and 4 as far as they speak of these)."""

import unittest
from random import Random

from normalwords.edgewords import edge_words, ring_form
from normalwords.errors import InvalidWord
from normalwords.groups import Group
from normalwords.judging import tells_group
from normalwords.languages import least_machine
from normalwords.machines import Machine
from normalwords.tellings import Telling
from normalwords.words import is_ahead, undone
from reference import ODD_VALUES, all_words, no_words, pairing, random_pair_machine, words_up_to
from samples import GROUPS, PLACES, group_sample, places_sample

UNDOS = ((0,), (1, 0), (0, 1), (0, 2, 1), (1, 0, 3, 2), (0, 3, 2, 1))


def plain_ring_form(undo, word):
    """The ring form, one letter pair after the other, and all words of the ring."""
    word = list(word)
    places = [n for n in range(len(word) - 1) if undo[word[n]] == word[n + 1]]
    while places:
        del word[places[0]:places[0] + 2]
        places = [n for n in range(len(word) - 1) if undo[word[n]] == word[n + 1]]
    while len(word) >= 2 and undo[word[-1]] == word[0]:
        word = word[1:-1]
    back = [undo[x] for x in word[::-1]]
    turns = [tuple(ring[n:] + ring[:n]) for ring in (word, back) for n in range(len(ring))]
    return sorted(turns)[0] if turns else ()


def plain_edge_words(telling):
    """The edge words, state by state, edge by edge: the first word of pair letters to a state is
    found by trying all words in order."""
    k, undo = telling.letters, telling.undo
    told = set()
    for x in range(k):
        machine = least_machine(telling.steps[x])
        ways = {}
        layer = {0: ()}
        while layer:
            ways.update(layer)
            layer_after = {}
            for state, way in sorted(layer.items(), key=lambda item: item[1]):
                for letter, target in enumerate(machine.table[state]):
                    if target is not None and target not in ways:
                        layer_after.setdefault(target, way + (letter,))
            layer = layer_after

        def differs(state):
            p = [row // (k + 1) for row in ways[state] if row // (k + 1) < k]
            q = [row % (k + 1) for row in ways[state] if row % (k + 1) < k]
            return tuple(undo[a] for a in p[::-1]) + tuple(q)

        for state, way in ways.items():
            if machine.ends[state] == 1:
                told.add(plain_ring_form(undo, differs(state) + (undo[x],)))
            for letter, target in enumerate(machine.table[state]):
                if target is None:
                    continue
                a, b = divmod(letter, k + 1)
                word = (() if a == k else (undo[a],)) + differs(state) + (() if b == k else (b,))
                told.add(plain_ring_form(undo, word + undone(undo, differs(target))))
    return tuple(sorted(told - {()}, key=lambda word: (len(word), word)))


class RingForm(unittest.TestCase):
    def test_by_hand(self):
        undo = (1, 0, 3, 2)
        self.assertEqual(ring_form(undo, ()), ())
        self.assertEqual(ring_form(undo, (3,)), (2,))
        self.assertEqual(ring_form(undo, (2, 0, 3, 1)), (0, 2, 1, 3))
        self.assertEqual(ring_form(undo, (0, 2, 2, 1)), (2, 2))
        self.assertEqual(ring_form(undo, (0, 1)), ())
        self.assertEqual(ring_form(undo, (0, 2, 3, 2, 3, 1)), ())
        self.assertEqual(ring_form(undo=(0, 1), word=(1, 0, 1)), (0,))

    def test_a_letter_that_undoes_itself_stays(self):
        self.assertEqual(ring_form((0,), (0,)), (0,))
        self.assertEqual(ring_form((0,), (0, 0)), ())
        self.assertEqual(ring_form((0, 1), (0, 1, 0)), (1,))
        self.assertEqual(ring_form((0, 1), (1, 0, 1, 0)), (0, 1, 0, 1))

    def test_all_short_words(self):
        for undo in UNDOS:
            for word in words_up_to(len(undo), 5 if len(undo) < 4 else 4):
                self.assertEqual(ring_form(undo, word), plain_ring_form(undo, word))

    def test_long_words_and_their_turns(self):
        random = Random(61)
        for undo in UNDOS:
            for _ in range(10):
                word = tuple(random.randrange(len(undo)) for _ in range(40))
                form = ring_form(undo, word)
                self.assertEqual(form, plain_ring_form(undo, word))
                place = random.randrange(40)
                self.assertEqual(ring_form(undo, word[place:] + word[:place]), form)
                self.assertEqual(ring_form(undo, undone(undo, word)), form)
                self.assertEqual(ring_form(undo, form), form)

    def test_wrong_words(self):
        for value in ODD_VALUES + ((2,), [], [0], (0, True), "00"):
            with self.assertRaises(InvalidWord) as caught:
                ring_form((1, 0), value)
            self.assertIs(caught.exception.value, value)


class EdgeWords(unittest.TestCase):
    def test_by_hand(self):
        for name in ("whole", "mirrors", "free", "free with a mirror", "two"):
            self.assertEqual(edge_words(group_sample(name).telling), ())
        self.assertEqual(edge_words(telling=group_sample("plane").telling), ((0, 2, 1, 3),))
        self.assertEqual(edge_words(group_sample("bottle").telling), ((0, 2, 0, 3),))
        self.assertEqual(edge_words(group_sample("modular").telling), ((1, 1, 1),))
        self.assertEqual(edge_words(group_sample("swaps").telling), ((0, 1, 0, 1, 0, 1),))
        self.assertEqual(edge_words(group_sample("one, two letters").telling), ((0,),))

    def test_samples(self):
        for samples, make in ((GROUPS, group_sample), (PLACES, places_sample)):
            for name in samples:
                with self.subTest(name=name):
                    telling = make(name).telling
                    words = edge_words(telling)
                    self.assertIsInstance(words, tuple)
                    self.assertEqual(words, plain_edge_words(telling))
                    for one, other in zip(words, words[1:]):
                        self.assertTrue(is_ahead(one, other))
                    self.assertNotIn((), words)

    def test_any_pair_machines(self):
        # Blanks stand on both sides here, and nothing else is right.
        random = Random(62)
        for _ in range(40):
            steps = [random_pair_machine(random, 2, random.randint(1, 3), 0.6) for _ in range(2)]
            telling = Telling(random.choice([(0, 1), (1, 0)]), all_words(2), steps)
            self.assertEqual(edge_words(telling), plain_edge_words(telling))

    def test_blanks(self):
        undo = (1, 0, 3, 2)
        none = no_words(24)
        right = Telling(undo, all_words(4), [pairing(4, [((), (2, 2))]), none, none, none])
        self.assertEqual(edge_words(right), ((0, 3, 3),))
        left = Telling(undo, all_words(4), [none, none, pairing(4, [((0, 2, 2), ())]), none])
        self.assertEqual(edge_words(left), ((0, 2, 2, 2),))
        several = Telling(undo, all_words(4), [pairing(4, [((0, 2, 2), (1,)), ((), (2, 2)), ((2,), (0, 2, 1))]),
                                               none, none, none])
        self.assertEqual(edge_words(several), ((0, 3, 3), (0, 0, 2, 2, 2, 2), (0, 2, 1, 3, 3, 3)))
        self.assertEqual(edge_words(several), plain_edge_words(several))

    def test_steps_that_take_nothing(self):
        self.assertEqual(edge_words(Telling((1, 0), all_words(2), [no_words(8)] * 2)), ())

    def test_unlike_machines_of_the_same_pairs(self):
        telling = group_sample("plane").telling
        steps = [Machine(step.letters, step.table + step.table[:1], step.ends + (1,)) for step in telling.steps]
        self.assertEqual(edge_words(Telling(telling.undo, telling.words, steps)), ((0, 2, 1, 3),))


class WhatHolds(unittest.TestCase):
    def test_it_is_a_group_if_edge_words_lead_all_words_to_themselves(self):
        for samples, make in ((GROUPS, group_sample), (PLACES, places_sample)):
            for name in samples:
                with self.subTest(name=name):
                    telling = make(name).telling
                    short = [word for word in words_up_to(telling.letters, 3) if telling.words.takes(word)]
                    stay = all(telling.walked(word, ring) == word for ring in edge_words(telling) for word in short)
                    self.assertEqual(stay, samples is GROUPS)
                    self.assertEqual(tells_group(telling), stay)

    def test_edge_words_are_nothing_in_the_group(self):
        for name in GROUPS:
            sample = group_sample(name)
            group = Group(sample.telling)
            for word in edge_words(sample.telling):
                self.assertTrue(group.is_nothing(word))
                self.assertEqual(sample.element(word), sample.one)


if __name__ == "__main__":
    unittest.main()
