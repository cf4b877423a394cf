"""Point 14: groups and places (with points 1, 2 and 4 as far as they speak of these)."""

import unittest
from random import Random

from normalwords.errors import InvalidNumber, InvalidWord, Undefined
from normalwords.groups import Group, Places
from normalwords.judging import tells_group, tells_places
from normalwords.languages import least_machine
from normalwords.machines import Machine
from normalwords.tellings import Telling
from normalwords.words import undone
from reference import ODD_VALUES, all_words, no_words, pairing, taking, words_up_to
from samples import GROUPS, PLACES, group, group_sample, places_sample

WRONG_WORDS = ODD_VALUES + ((9,), [], [0], (0, True), (-1,), "00")
NO_PLACES = Telling((0,), taking(1, [(), (0,)]), [pairing(1, [((), (0,))])])


def some_words(random, letters, many, length):
    return [tuple(random.randrange(letters) for _ in range(random.randint(0, length))) for _ in range(many)]


def short_words(letters):
    return words_up_to(letters, {1: 5, 2: 5, 3: 4, 4: 3}[letters])


class Making(unittest.TestCase):
    def test_groups(self):
        for name in GROUPS:
            telling = group_sample(name).telling
            self.assertEqual(Group(telling).telling, telling)
            self.assertEqual(Group(telling=telling).telling, telling)
            self.assertEqual(Places(telling).telling, telling)

    def test_places_are_no_group(self):
        for name in PLACES:
            telling = places_sample(name).telling
            self.assertEqual(Places(telling=telling).telling, telling)
            with self.assertRaises(Undefined) as caught:
                Group(telling)
            self.assertEqual(caught.exception.what, "group")

    def test_neither(self):
        for telling in (NO_PLACES, Telling((1, 0), all_words(2), [no_words(8)] * 2),
                        Telling((1, 0), no_words(2), [no_words(8)] * 2)):
            for make, what in ((Group, "group"), (Places, "places")):
                with self.assertRaises(Undefined) as caught:
                    make(telling)
                self.assertEqual(caught.exception.what, what)

    def test_machines_that_are_not_least(self):
        telling = group_sample("plane").telling
        longer = Telling(telling.undo, Machine(4, telling.words.table + ((None,) * 4,), telling.words.ends + (1,)),
                         [Machine(24, step.table + step.table, step.ends * 2) for step in telling.steps])
        self.assertEqual(Group(longer).telling, longer)
        self.assertEqual(Group(longer).normal((2, 0, 3, 0, 0, 1)), (0, 0))
        self.assertNotEqual(Group(longer), Group(telling))
        self.assertEqual(least_machine(longer.words), least_machine(telling.words))


class Equality(unittest.TestCase):
    def test_equal_exactly_if_the_tellings_are(self):
        for name in GROUPS:
            telling = group_sample(name).telling
            one = Group(Telling(telling.undo, telling.words, list(telling.steps)))
            for other in GROUPS:
                self.assertIs(one == group(other), telling == group_sample(other).telling)
                self.assertIs(one != group(other), telling != group_sample(other).telling)
            self.assertTrue(one == group(name))

    def test_places(self):
        telling = places_sample("mirrored").telling
        copy = Telling(telling.undo, telling.words, list(telling.steps))
        self.assertTrue(Places(telling) == Places(copy))
        self.assertFalse(Places(telling) != Places(copy))
        self.assertTrue(Places(telling) != Places(places_sample("three points").telling))

    def test_other_kinds(self):
        telling = group_sample("whole").telling
        one, places = Group(telling), Places(telling)
        for other in (None, True, 0, "", (), [one], (one,), telling, telling.words, places):
            self.assertIs(one == other, False)
            self.assertIs(one != other, True)
            self.assertIs(other == one, False)
        for other in (None, True, 0, "", (), [places], telling, telling.words, one):
            self.assertIs(places == other, False)
            self.assertIs(places != other, True)
            self.assertIs(other == places, False)


class Words(unittest.TestCase):
    def test_short_words(self):
        for name in GROUPS:
            with self.subTest(name=name):
                sample, made = group_sample(name), group(name)
                forms = {}
                for word in short_words(made.telling.letters):
                    normal = made.normal(word)
                    self.assertTrue(sample.telling.words.takes(normal))
                    self.assertEqual(sample.element(normal), sample.element(word))
                    self.assertEqual(forms.setdefault(sample.element(word), normal), normal)
                    self.assertEqual(normal, sample.telling.walked((), word))
                    self.assertIs(made.is_nothing(word), sample.element(word) == sample.one)
                    self.assertEqual(made.undone(word), made.normal(undone(sample.telling.undo, word)))

    def test_two_words(self):
        random = Random(91)
        for name in GROUPS:
            with self.subTest(name=name):
                sample, made = group_sample(name), group(name)
                words = some_words(random, made.telling.letters, 12, 8)
                for one in words:
                    for other in words:
                        both, turned = sample.element(one + other), sample.element(other + one)
                        self.assertEqual(made.times(one, other), made.normal(one + other))
                        self.assertEqual(sample.element(made.times(one, other)), both)
                        self.assertIs(made.commute(one, other), both == turned)
                        self.assertIs(made.equal(one, other), sample.element(one) == sample.element(other))

    def test_long_words(self):
        random = Random(92)
        for name in GROUPS:
            with self.subTest(name=name):
                sample, made = group_sample(name), group(name)
                for _ in range(5):
                    word = tuple(random.randrange(made.telling.letters) for _ in range(40))
                    other = tuple(random.randrange(made.telling.letters) for _ in range(40))
                    normal = made.normal(word)
                    self.assertTrue(sample.telling.words.takes(normal))
                    self.assertEqual(sample.element(normal), sample.element(word))
                    self.assertEqual(normal, sample.telling.walked((), word))
                    self.assertEqual(made.times(word, other), made.normal(word + other))
                    self.assertTrue(made.is_nothing(word + made.undone(word)))
                    self.assertTrue(made.equal(word, normal))

    def test_by_name(self):
        made = group("plane")
        self.assertEqual(made.normal(word=(2, 0, 3, 0, 0, 1)), (0, 0))
        self.assertIs(made.is_nothing(word=(0, 1)), True)
        self.assertIs(made.equal(one=(0, 2), other=(2, 0)), True)
        self.assertIs(made.commute(one=(0,), other=(2,)), True)
        self.assertEqual(made.times(one=(2,), other=(0,)), (0, 2))
        self.assertEqual(made.undone(word=(0, 2)), (1, 3))
        self.assertEqual(made.power(word=(2, 0), n=2), (0, 0, 2, 2))
        self.assertIsNone(made.order(word=(0,), most=3))
        places = Places(places_sample("mirrored").telling)
        self.assertEqual(places.led(word=(0,), row=(2,)), (1,))
        self.assertIs(places.stays(word=(2,)), True)

    def test_normal_words_that_are_not_shortest(self):
        made = group("far")
        self.assertEqual(made.normal((2,) * 40), (0,) * 80)
        self.assertEqual(made.normal((3, 0)), (1,))
        self.assertEqual(group("swaps, deep").normal((1,)), (0, 1, 0, 1, 0))
        self.assertEqual(group("seven, deep").normal((1,)), (0,) * 6)


class Powers(unittest.TestCase):
    def test_small_powers(self):
        random = Random(93)
        for name in GROUPS:
            sample, made = group_sample(name), group(name)
            for word in [(), (0,)] + some_words(random, made.telling.letters, 4, 5):
                for n in range(-4, 5):
                    told = made.power(word, n)
                    self.assertEqual(told, made.normal(word * n if n >= 0 else made.undone(word) * -n))
                    self.assertEqual(made.power(word, -n), made.undone(told))
                self.assertEqual(made.power(word, 0), ())

    def test_great_powers(self):
        self.assertEqual(group("whole").power((0,) * 40, 40), (0,) * 1600)
        self.assertEqual(group("whole").power((0,), -40), (1,) * 40)
        self.assertEqual(group("twelve").power((0,), 12 * 10 ** 9 + 1), group("twelve").normal((0,)))
        word = (0, 2) * 20
        self.assertEqual(group("free").power(word, 40), word * 40)
        self.assertEqual(group("free").power(word, -3), (3, 1) * 60)
        self.assertEqual(group("free").power((0, 2, 1), 40), (0,) + (2,) * 40 + (1,))

    def test_orders(self):
        for name in GROUPS:
            sample, made = group_sample(name), group(name)
            for word in short_words(made.telling.letters)[:60]:
                orders = [n for n in range(1, 13) if sample.element(word * n) == sample.one]
                self.assertEqual(made.order(word, 12), orders[0] if orders else None)
                if orders and orders[0] > 1:
                    self.assertEqual(made.order(word, orders[0]), orders[0])
                    self.assertIsNone(made.order(word, orders[0] - 1))

    def test_the_order_of_nothing(self):
        for most in (1, 2, 40):
            self.assertEqual(group("plane").order((), most), 1)
            self.assertEqual(group("plane").order((0, 2, 1, 3), most), 1)
        self.assertEqual(group("seven, deep").order((0,), 40), 7)
        self.assertIsNone(group("free").order((0, 2) * 20, 40))

    def test_wrong_numbers(self):
        made = group("plane")
        for value in (None, True, False, "1", (1,), [], made):
            with self.assertRaises(InvalidNumber) as caught:
                made.power((0,), value)
            self.assertIs(caught.exception.value, value)
        for value in (None, True, False, "1", (1,), [], made, 0, -1, -40):
            with self.assertRaises(InvalidNumber) as caught:
                made.order((), value)
            self.assertIs(caught.exception.value, value)


class Whole(unittest.TestCase):
    def test_sizes(self):
        sizes = {"one": 1, "one, two letters": 1, "two": 2, "three, with nothing": 3, "seven, deep": 7, "twelve": 12,
                 "swaps": 6, "swap and turn": 6, "swaps, deep": 6}
        for name in GROUPS:
            self.assertEqual(group(name).size(), sizes.get(name))
            self.assertIsNot(group(name).size(), True)

    def test_commutative(self):
        not_so = {"swaps", "swap and turn", "swaps, deep", "mirrors", "free", "free with a mirror", "bottle", "modular",
                  "triangle 2 4 4", "triangle 4 4 4", "four mirrors"}
        random = Random(94)
        for name in GROUPS:
            made = group(name)
            self.assertIs(made.is_commutative(), name not in not_so)
            letters = range(made.telling.letters)
            self.assertEqual(made.is_commutative(), all(made.commute((x,), (y,)) for x in letters for y in letters))
            if made.is_commutative():
                words = some_words(random, made.telling.letters, 6, 10)
                self.assertTrue(all(made.commute(one, other) for one in words for other in words))


class PlacesThatAreTold(unittest.TestCase):
    def test_led(self):
        for name in PLACES:
            with self.subTest(name=name):
                sample = places_sample(name)
                places = Places(sample.telling)
                normal = [word for word in short_words(sample.telling.letters) if sample.telling.words.takes(word)]
                for word in normal:
                    for row in words_up_to(sample.telling.letters, 3):
                        led = places.led(word, row)
                        self.assertEqual(led, sample.telling.walked(word, row))
                        self.assertEqual(sample.element(led), sample.element(word + row))

    def test_stays(self):
        for name in PLACES:
            sample = places_sample(name)
            places = Places(sample.telling)
            for word in short_words(sample.telling.letters):
                self.assertIs(places.stays(word), sample.element(word) == sample.one)
                self.assertEqual(places.stays(word), places.led((), word) == ())

    def test_long_rows(self):
        random = Random(95)
        places = Places(places_sample("mirrored").telling)
        for _ in range(10):
            row = tuple(random.randrange(3) for _ in range(40))
            n = places_sample("mirrored").element(row)
            self.assertEqual(places.led((), row), (0,) * n if n > 0 else (1,) * -n)
            self.assertEqual(places.led((0,) * 40, (2, 0)), (1,) * 39)

    def test_sizes(self):
        sizes = {"three points": 3, "three points, turned": 3, "four points, deep": 4, "six points": 6}
        for name in PLACES:
            self.assertEqual(Places(places_sample(name).telling).size(), sizes.get(name))

    def test_groups_are_places(self):
        for name in GROUPS:
            made, places = group(name), Places(group_sample(name).telling)
            self.assertEqual(places.size(), made.size())
            for word in short_words(made.telling.letters):
                self.assertIs(places.stays(word), made.is_nothing(word))
                self.assertEqual(places.led(made.normal(word), (0,)), made.times(word, (0,)))

    def test_each_word_leads_one_to_one(self):
        for name in ("three points", "four points, deep", "six points"):
            sample = places_sample(name)
            places = Places(sample.telling)
            normal = {word for word in words_up_to(sample.telling.letters, 5) if sample.telling.words.takes(word)}
            for row in words_up_to(sample.telling.letters, 4):
                self.assertEqual({places.led(word, row) for word in normal}, normal)

    def test_words_that_stay_are_those_of_a_subgroup(self):
        places = Places(places_sample("six points").telling)
        stay = [word for word in words_up_to(3, 5) if places.stays(word)]
        random = Random(96)
        for _ in range(100):
            one, other = random.choice(stay), random.choice(stay)
            self.assertTrue(places.stays(one + other) and places.stays(undone((1, 0, 2), one)))

    def test_a_word_that_is_not_normal(self):
        places = Places(places_sample("mirrored").telling)
        for word in ((0, 1), (2,), (0, 2), (0,) * 39 + (1,)):
            for row in ((), (0,), (2, 2)):
                with self.assertRaises(Undefined) as caught:
                    places.led(word, row)
                self.assertEqual(caught.exception.what, "normal")


class WrongWords(unittest.TestCase):
    def refused(self, value, call, *arguments):
        with self.assertRaises(InvalidWord) as caught:
            call(*arguments)
        self.assertIs(caught.exception.value, value)

    def test_one_word(self):
        made, places = group("plane"), Places(places_sample("mirrored").telling)
        for value in WRONG_WORDS:
            for call in (made.normal, made.is_nothing, made.undone, places.stays):
                self.refused(value, call, value)

    def test_two_words(self):
        made, places = group("plane"), Places(places_sample("mirrored").telling)
        for value in WRONG_WORDS:
            for call in (made.equal, made.commute, made.times, places.led):
                self.refused(value, call, value, ())
                self.refused(value, call, (), value)
                self.refused(value, call, value, (17,))
                # Ahead of that a word is not normal.
                self.refused(value, call, (0, 1), value)

    def test_a_word_and_a_number(self):
        made = group("plane")
        for value in WRONG_WORDS:
            for n in (1, 0, None, "x"):
                self.refused(value, made.power, value, n)
                self.refused(value, made.order, value, n)

    def test_letters_that_are_just_too_great(self):
        for name in GROUPS:
            made = group(name)
            word = (made.telling.letters,)
            self.refused(word, made.normal, word)
            self.refused(word, made.times, (0,), word)


class WhatHolds(unittest.TestCase):
    def test_what_tells_a_group_tells_places(self):
        for name in GROUPS:
            self.assertTrue(tells_group(group_sample(name).telling) and tells_places(group_sample(name).telling))


class Basics(unittest.TestCase):
    def test_objects_and_arguments_stay(self):
        telling = group_sample("plane").telling
        steps = list(telling.steps)
        handed = Telling(telling.undo, telling.words, steps)
        made = Group(handed)
        steps[0] = no_words(24)
        self.assertEqual(made.normal((2, 0)), (0, 2))
        self.assertEqual(made.power((2, 0), 3), made.power((2, 0), 3))
        self.assertEqual(made.order((2, 0), 3), made.order((2, 0), 3))
        self.assertEqual(made, group("plane"))
        self.assertEqual(handed, telling)


if __name__ == "__main__":
    unittest.main()
