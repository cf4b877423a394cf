"""Point 27: groups of complete rules (with points 1, 2 and 4 as far as they speak of these)."""

import unittest
from random import Random

from normalwords.alike import are_alike
from normalwords.besides import beside
from normalwords.edgewords import edge_words
from normalwords.errors import InvalidNumber, InvalidRules, Undefined
from normalwords.frees import free_group
from normalwords.groups import Group
from normalwords.rounds import mirrors, round_group, whole_numbers
from normalwords.rulegroups import is_complete, rule_group
from normalwords.shortest import are_least, are_shortest
from exchanging import COMPLETE, LOOSE, greatest_difference, is_last, last_forms, reduced
from made import check_group, check_machines
from reference import ODD_VALUES
from samples import group
from test_rewriting import UNDOS, places_of_wrong_exchanges, random_exchanges

# How far the plain ways look, by the number of letters.
LENGTHS = {1: 4, 2: 7, 3: 6, 4: 5}


class Complete(unittest.TestCase):
    def test_both_kinds(self):
        for undo, exchanges, _, _ in COMPLETE.values():
            self.assertIs(is_complete(undo, exchanges), True)
            self.assertIs(is_complete(undo=undo, exchanges=tuple(exchanges)), True)
        for undo, exchanges, _ in LOOSE.values():
            self.assertIs(is_complete(undo, exchanges), False)
            self.assertIs(is_complete(undo=undo, exchanges=tuple(exchanges)), False)


class RuleGroups(unittest.TestCase):
    def test_all_complete_exchanges(self):
        random = Random(181)
        for name, (undo, exchanges, radius, size) in COMPLETE.items():
            with self.subTest(name=name):
                made = rule_group(undo, exchanges, radius)
                check_group(self, made, undo, lambda word: is_last(undo, exchanges, word), (),
                            lambda held, x: reduced(undo, exchanges, held + (x,)), 4 if len(undo) < 4 else 3, random)
                self.assertEqual(made.size(), size)
                for left, right in exchanges:
                    self.assertIs(made.equal(left, right), True)

    def test_radii(self):
        for name, (undo, exchanges, radius, _) in COMPLETE.items():
            with self.subTest(name=name):
                self.assertEqual(greatest_difference(undo, exchanges, LENGTHS[len(undo)]), radius)
                for n in range(radius):
                    self.assertIsNone(rule_group(undo, exchanges, n))
                made = rule_group(undo, exchanges, radius)
                for n in range(radius, 7):
                    self.assertEqual(rule_group(undo=undo, exchanges=tuple(exchanges), radius=n), made)

    def test_groups_that_are_made_otherwise(self):
        for name, made in (("whole numbers", whole_numbers()), ("mirrors", mirrors()), ("free", free_group(2)),
                           ("round of three", round_group(3)), ("round of five", round_group(5)),
                           ("round of eight", round_group(8)), ("plane", beside(whole_numbers(), whole_numbers())),
                           ("bottle", group("bottle")), ("modular", group("modular")), ("swaps", group("swaps"))):
            undo, exchanges, radius, _ = COMPLETE[name]
            self.assertTrue(are_alike(rule_group(undo, exchanges, radius), made), name)
            if are_least(made):
                self.assertEqual(rule_group(undo, exchanges, 4), made, name)

    def test_radius_nothing(self):
        self.assertEqual(rule_group((0,), [((0,), ())], 0).size(), 1)
        self.assertIsNone(rule_group((0,), [], 0))
        self.assertIsNone(rule_group((1, 0), (), 0))

    def test_normal_words_are_the_first_ones(self):
        for undo, exchanges, radius, _ in COMPLETE.values():
            made = rule_group(undo, exchanges, radius)
            self.assertIs(are_shortest(made), True)
            self.assertIs(are_least(made), True)

    def test_edge_words_follow_from_the_exchanges(self):
        for undo, exchanges, radius, _ in COMPLETE.values():
            for word in edge_words(rule_group(undo, exchanges, radius).telling):
                self.assertEqual(reduced(undo, exchanges, word), ())

    def test_more_exchanges_than_are_needed(self):
        undo, exchanges, radius, _ = COMPLETE["plane"]
        more = exchanges + [((2, 0, 0), (0, 0, 2)), ((0, 1), ()), exchanges[0], ((2, 3, 3), (3,))]
        self.assertTrue(is_complete(undo, more))
        self.assertEqual(rule_group(undo, more, radius), rule_group(undo, exchanges, radius))

    def test_a_letter_that_is_another_one(self):
        made = rule_group((0, 2, 1, 3), [((3,), (0,)), ((2, 2), (1,)), ((1, 1), (2,))], 2)
        check_machines(self, made)
        self.assertEqual(made.normal((3, 1, 1, 3, 0)), (0, 2))

    def test_exchanges_with_greater_differences(self):
        undo, exchanges = (0, 1, 2, 3), [((3, 1), (1, 3)), ((1, 0, 1, 0), (0, 3, 0, 3)), ((1, 0, 3, 0), (0, 1, 0, 3)),
                                         ((3, 0, 1, 0), (0, 3, 0, 1)), ((3, 0, 3, 0), (0, 1, 0, 1)),
                                         ((1, 0, 1, 3, 0), (0, 1, 3, 0, 1)), ((3, 0, 1, 3, 0), (0, 1, 3, 0, 3))]
        self.assertIs(is_complete(undo, exchanges), True)
        for n in range(5):
            self.assertIsNone(rule_group(undo, exchanges, n))
        self.assertGreater(greatest_difference(undo, exchanges, 6), 4)

    def test_random_exchanges(self):
        random = Random(182)
        met = []
        while len(met) < 60:
            undo = random.choice(UNDOS)
            exchanges = random_exchanges(random, len(undo), 4, 4)
            if is_complete(undo, exchanges):
                least = greatest_difference(undo, exchanges, LENGTHS[len(undo)] - 1)
                made = rule_group(undo, exchanges, 4)
                if made is not None:
                    check_group(self, made, undo, lambda word: is_last(undo, exchanges, word), (),
                                lambda held, x: reduced(undo, exchanges, held + (x,)), 3, random)
                for n in range(least):
                    self.assertIsNone(rule_group(undo, exchanges, n))
                if least <= 4:
                    self.assertEqual(rule_group(undo, exchanges, least), made)
                met.append((len(exchanges), made is None or made.size()))
        self.assertGreater(len(set(met)), 10)

    def test_long_words(self):
        random = Random(183)
        undo, exchanges, radius, _ = COMPLETE["squares"]
        made = rule_group(undo, exchanges, radius)
        for _ in range(10):
            word = tuple(random.randrange(3) for _ in range(40))
            self.assertEqual(made.normal(word), reduced(undo, exchanges, word))

    def test_are_groups(self):
        for undo, exchanges, radius, _ in COMPLETE.values():
            self.assertIs(type(rule_group(undo, exchanges, radius)), Group)


class Wrong(unittest.TestCase):
    def test_exchanges(self):
        for exchanges, place in places_of_wrong_exchanges():
            for call in (lambda: is_complete((1, 0), exchanges), lambda: rule_group((1, 0), exchanges, 2),
                         lambda: is_complete(undo=(1, 0), exchanges=exchanges),
                         lambda: rule_group(undo=(1, 0), exchanges=exchanges, radius="no number")):
                with self.assertRaises(InvalidRules) as caught:
                    call()
                self.assertEqual(caught.exception.place, place)

    def test_radii(self):
        for radius in ODD_VALUES + (-2, (), "2", [2], (2,)):
            for undo, exchanges, _ in [COMPLETE["plane"][:3]] + list(LOOSE.values()):
                with self.assertRaises(InvalidNumber) as caught:
                    rule_group(undo, exchanges, radius)
                self.assertIs(caught.exception.value, radius)

    def test_loose_exchanges(self):
        for undo, exchanges, word in LOOSE.values():
            self.assertGreater(len(last_forms(undo, exchanges, word)), 1)
            for radius in (0, 4):
                with self.assertRaises(Undefined) as caught:
                    rule_group(undo, exchanges, radius)
                self.assertEqual(caught.exception.what, "forms")

    def test_arguments_stay_as_they_are(self):
        exchanges = [((1, 0, 1), (0, 1, 0))]
        made = rule_group((0, 1), exchanges, 2)
        self.assertEqual(exchanges, [((1, 0, 1), (0, 1, 0))])
        exchanges.append(((1,), (0,)))
        self.assertEqual(made, rule_group((0, 1), (((1, 0, 1), (0, 1, 0)),), 2))


if __name__ == "__main__":
    unittest.main()
