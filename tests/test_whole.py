"""What the document says of the whole program, with the groups that the package makes."""

import unittest
from itertools import product
from random import Random

from normalwords.alike import are_alike, unlike_word
from normalwords.balls import ball, least_word, sphere
from normalwords.besides import beside
from normalwords.counts import count, growth, total
from normalwords.derivations import derives, made_by, tells_rules
from normalwords.desk import Desk
from normalwords.edgewords import edge_words
from normalwords.errors import InvalidImages, NormalError, Undefined
from normalwords.frees import free_group
from normalwords.groups import Group, Places
from normalwords.joins import joined
from normalwords.judging import is_witness, tells_group, tells_places, witness
from normalwords.languages import first_unlike
from normalwords.maps import image, is_map, map_fault
from normalwords.pairs import takes_pair
from normalwords.relations import behind, equal_pairs, firsts, seconds
from normalwords.rounds import mirrors, round_group, whole_numbers
from normalwords.rulegroups import rule_group
from normalwords.shortest import are_least, are_shortest, greater_step, longer_step
from normalwords.tables import table_group
from normalwords.tellings import Telling
from normalwords.texts import read_machine, read_telling, write_machine, write_telling
from exchanging import COMPLETE
from groups_made import MADE
from made import TABLES
from reference import random_machine, words_up_to

PLANE = MADE["plane"]


class Overview(unittest.TestCase):
    def test_the_example(self):
        plane = beside(whole_numbers(), whole_numbers())
        told = (plane.normal((2, 0, 3, 0, 0, 1)), plane.equal((0, 2), (2, 0)), free_group(2).equal((0, 2), (2, 0)))
        self.assertEqual(told, ((0, 0), True, False))
        self.assertEqual((witness(plane.telling) is None, plane.size()), (True, None))


class TellingsOfMadeGroups(unittest.TestCase):
    def test_steps_undo_one_another(self):
        for name, made in MADE.items():
            telling = made.telling
            same = equal_pairs(telling.words)
            for x, step in enumerate(telling.steps):
                with self.subTest(name=name, x=x):
                    self.assertEqual(behind(step, telling.steps[telling.undo[x]], telling.letters), same)
                    self.assertEqual(firsts(step, telling.letters), telling.words)
                    self.assertEqual(seconds(step, telling.letters), telling.words)

    def test_steps_of_words(self):
        random = Random(231)
        for made in MADE.values():
            telling = made.telling
            for _ in range(5):
                word = tuple(random.randrange(telling.letters) for _ in range(8))
                held = made.normal(word)
                self.assertEqual(telling.walked((), word), held)
                for x, step in enumerate(telling.steps):
                    self.assertIs(takes_pair(step, telling.letters, held, made.normal(word + (x,))), True)
                    self.assertEqual(telling.led(held, x), made.normal(word + (x,)))

    def test_tellings_with_a_change_have_witnesses(self):
        random = Random(232)
        kinds = set()
        for name, made in MADE.items():
            telling = made.telling
            for _ in range(3):
                x = random.randrange(telling.letters)
                step = telling.steps[x]
                steps = list(telling.steps)
                steps[x] = random.choice((steps[telling.undo[x]], equal_pairs(telling.words),
                                          random_machine(random, step.letters, 3)))
                other = Telling(telling.undo, telling.words, steps)
                found = witness(other)
                with self.subTest(name=name, x=x):
                    self.assertIs(tells_group(other), found is None)
                    self.assertIs(tells_places(other), found is None or found[0] == "apart")
                    if found is not None:
                        self.assertIs(is_witness(other, found), True)
                        self.assertIs(is_witness(telling, found), False)
                        with self.assertRaises(Undefined):
                            Group(other)
                kinds.add(found and found[0])
        self.assertGreater(len(kinds), 3)

    def test_places(self):
        for made in MADE.values():
            places = Places(made.telling)
            for word in words_up_to(made.telling.letters, 3):
                self.assertEqual(places.led((), word), made.normal(word))
                self.assertIs(places.stays(word), made.is_nothing(word))

    def test_written_and_read(self):
        for made in MADE.values():
            self.assertEqual(Group(read_telling(write_telling(made.telling))), made)
            for machine in (made.telling.words,) + made.telling.steps:
                self.assertEqual(read_machine(write_machine(machine)), machine)


class RulesOfMadeGroups(unittest.TestCase):
    def test_edge_words_are_nothing(self):
        for name, made in MADE.items():
            words = edge_words(made.telling)
            self.assertEqual(words, tuple(sorted(set(words), key=lambda word: (len(word), word))), name)
            self.assertTrue(all(made.is_nothing(word) for word in words), name)

    def test_groups_with_no_rules(self):
        for name in ("whole numbers", "mirrors", "free"):
            self.assertEqual(edge_words(MADE[name].telling), ())

    def test_alike_groups_of_several_modules(self):
        two, three = table_group(TABLES["2"], (1,)), table_group(TABLES["3"], (1, 2))
        for one, other in ((PLANE, rule_group(*COMPLETE["plane"][:3])), (three, round_group(3)),
                           (MADE["swaps"], rule_group(*COMPLETE["swaps"][:3])),
                           (joined(two, round_group(3)), rule_group((0, 2, 1), [((1, 1), (2,)), ((2, 2), (1,))], 1)),
                           (beside(two, two), table_group(TABLES["2 2"], (1, 2)))):
            self.assertIs(are_alike(one, other), True)
            self.assertIs(are_alike(other, one), True)
            self.assertEqual(one, other)

    def test_unlike_groups(self):
        self.assertEqual(unlike_word(free_group(2), PLANE), (0, 2, 1, 3))
        self.assertEqual(unlike_word(PLANE, free_group(2)), (0, 2, 1, 3))
        self.assertEqual(unlike_word(whole_numbers(), round_group(5)), (0,) * 5)
        self.assertEqual(unlike_word(round_group(4), round_group(6)), (0,) * 4)
        self.assertEqual(unlike_word(PLANE, rule_group(*COMPLETE["bottle"][:3])), (0, 2, 1, 3))
        with self.assertRaises(Undefined):
            unlike_word(mirrors(), whole_numbers())

    def test_letters_of_parts_are_mapped_into_the_whole(self):
        one, other = mirrors(), round_group(5)
        for whole in (beside(one, other), joined(one, other)):
            self.assertIsNone(map_fault(one, whole, ((0,), (1,))))
            self.assertIsNone(map_fault(other, whole, ((2,), (3,))))
            self.assertIsNone(map_fault(whole, one, ((0,), (1,), (), ())))
            self.assertEqual(image(whole, other, ((), (), (0,), (1,)), (0, 2, 1, 2, 0, 2)), (1, 1))
        self.assertIs(is_map(joined(one, other), beside(one, other), ((0,), (1,), (2,), (3,))), True)
        self.assertEqual(map_fault(beside(one, other), joined(one, other), ((0,), (1,), (2,), (3,))), (0, 2, 0, 3))

    def test_maps_of_rule_groups(self):
        undo, exchanges, radius, _ = COMPLETE["four points"]
        made = rule_group(undo, exchanges, radius)
        self.assertIs(is_map(made, table_group(TABLES["2"], (1,)), ((0,), (0,), (0,))), True)
        self.assertIs(is_map(made, MADE["swaps"], ((0,), (1,), (0,))), True)
        self.assertIs(is_map(made, MADE["swaps"], ((0,), (1,), (1,))), False)
        with self.assertRaises(InvalidImages):
            image(made, MADE["swaps"], ((0,), (1,)), None)

    def test_derivations(self):
        self.assertEqual(edge_words(PLANE.telling), ((0, 2, 1, 3),))
        self.assertIs(tells_rules(PLANE, [(0, 2, 1, 3)], [(((), 0, 1),)]), True)
        # The same square, from its next corner, and the other way around.
        self.assertIs(tells_rules(PLANE, [(2, 1, 3, 0)], [(((0,), 0, 1),)]), True)
        self.assertIs(tells_rules(PLANE, [(2, 0, 3, 1)], [(((), 0, -1),)]), True)
        self.assertIs(tells_rules(PLANE, [(2, 0, 3, 1)], [(((), 0, 1),)]), False)
        derivation = (((), 0, 1), ((2,), 0, 1))
        word = made_by((1, 0, 3, 2), [(0, 2, 1, 3)], derivation)
        self.assertEqual(word, (0, 2, 2, 1, 3, 3))
        self.assertIs(derives((1, 0, 3, 2), [(0, 2, 1, 3)], word, derivation), True)
        self.assertIs(PLANE.is_nothing(word), True)


class LengthsOfMadeGroups(unittest.TestCase):
    def test_normal_words_are_the_first_ones(self):
        for name, made in MADE.items():
            self.assertIsNone(longer_step(made))
            self.assertIs(are_shortest(made), True, name)
            self.assertIs(are_least(made), True, name)
            self.assertIsNone(greater_step(made))

    def test_first_words_are_so_by_trying_all(self):
        for name, made in MADE.items():
            met = {}
            for word in words_up_to(made.telling.letters, 4 if made.telling.letters > 2 else 6):
                met.setdefault(made.normal(word), word)
                self.assertEqual(made.normal(word), met[made.normal(word)], name)
                self.assertEqual(least_word(made, word), made.normal(word))

    def test_spheres_and_balls(self):
        for made in MADE.values():
            for n in range(5):
                self.assertEqual(len(sphere(made, n)), count(made.telling.words, n))
                self.assertEqual(len(ball(made, n)), sum(count(made.telling.words, m) for m in range(n + 1)))

    def test_how_they_grow(self):
        for name, right in (("plane", ("power", 2)), ("free", ("exponential",)), ("mirrors", ("power", 1)),
                            ("whole numbers", ("power", 1)), ("bottle", ("power", 2)), ("square", ("finite",)),
                            ("squares", ("power", 2)), ("two joined to round three", ("exponential",)),
                            ("mirrors beside round four", ("power", 1)), ("four points", ("finite",))):
            self.assertEqual(growth(MADE[name].telling.words), right, name)
            self.assertEqual(MADE[name].size(), total(MADE[name].telling.words))

    def test_sizes(self):
        for name, right in (("table of one", 1), ("table of four", 4), ("swaps", 6), ("square", 8), ("turns", 8),
                            ("round six", 6), ("swaps beside two", 12), ("four points", 24), ("plane", None)):
            self.assertEqual(MADE[name].size(), right)


class Basics(unittest.TestCase):
    def test_groups_are_equal_only_to_groups_of_the_same_telling(self):
        names = list(MADE)
        for one, other in product(names, names):
            self.assertIs(MADE[one] == MADE[other], one == other)
            self.assertIs(MADE[one] != MADE[other], one != other)
        for made in MADE.values():
            self.assertFalse(made == made.telling)
            self.assertTrue(made != Places(made.telling))
            self.assertFalse(made == Desk(made))

    def test_normal_words_differ_between_unlike_groups(self):
        for one, other in (("plane", "free"), ("swaps", "mirrors"), ("round six", "whole numbers")):
            word = first_unlike(MADE[one].telling.words, MADE[other].telling.words)
            self.assertIs(MADE[one].telling.words.takes(word), MADE[one].normal(word) == word)
            self.assertIs(MADE[other].telling.words.takes(word), MADE[other].normal(word) == word)

    def test_what_fails_changes_nothing(self):
        before = {name: write_telling(made.telling) for name, made in MADE.items()}
        for made in MADE.values():
            for call in (lambda: made.normal((9,)), lambda: made.power((), None), lambda: made.order((), 0),
                         lambda: beside(made, free_group(2)), lambda: joined(free_group(2), made),
                         lambda: map_fault(made, made, None)):
                with self.assertRaises(NormalError):
                    call()
        self.assertEqual(before, {name: write_telling(made.telling) for name, made in MADE.items()})


if __name__ == "__main__":
    unittest.main()
