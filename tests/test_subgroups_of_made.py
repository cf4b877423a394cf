"""Points 21 and 22 once more: subgroups of the groups that the package makes."""

import unittest
from itertools import permutations, product
from random import Random

from normalwords.edgewords import edge_words
from normalwords.errors import Undefined
from normalwords.languages import both
from normalwords.machines import Machine
from normalwords.subgroups import (
    common, has_element, index, is_fault, is_subgroup, loop_words, made_subgroup, subgroup_fault)
from groups_made import MADE, SWAPS
from reference import taking
from test_subgroups import around, plain_is_subgroup, plain_loop_words, powers, reached, staying, with_a_change


def actions(made, many):
    """All ways in which the letters of the group may lead so many points."""
    undo = made.telling.undo
    rules = [(x, y) for x, y in enumerate(undo)] + list(edge_words(made.telling))
    points = list(permutations(range(many)))
    free = [x for x, y in enumerate(undo) if x <= y]
    told = []
    for chosen in product(points, repeat=len(free)):
        action = [None] * len(undo)
        for x, row in zip(free, chosen):
            action[x] = row
            if undo[x] != x:
                action[undo[x]] = tuple(row.index(point) for point in range(many))
        if all(led(action, point, rule) == point for rule in rules for point in range(many)):
            told.append(tuple(action))
    return told


def led(action, point, word):
    for x in word:
        point = action[x][point]
    return point


def random_word(random, letters, length):
    return tuple(random.randrange(letters) for _ in range(length))


class Subgroups(unittest.TestCase):
    def test_all_groups(self):
        random = Random(211)
        for name, made in MADE.items():
            for many in (2, 3, 4 if made.telling.letters < 3 else 3):
                found = actions(made, many)
                for action in random.sample(found, min(3, len(found))):
                    with self.subTest(name=name, action=action):
                        self.check(made, action, random)

    def check(self, made, action, random):
        letters = made.telling.letters
        machine = staying(made.telling, action)
        self.assertIsNone(subgroup_fault(made, machine))
        self.assertIs(is_subgroup(made, machine), True)
        self.assertEqual(index(made, machine, 60), reached(action))
        for _ in range(5):
            word = random_word(random, letters, random.choice((0, 1, 2, 3, 40)))
            self.assertIs(has_element(made, machine, word), led(action, 0, word) == 0)
        if letters ** len(machine) < 10 ** 5:
            self.assertEqual(loop_words(made, machine), plain_loop_words(made, machine))

    def test_what_two_subgroups_have(self):
        random = Random(212)
        for name, made in MADE.items():
            found = actions(made, 2) + actions(made, 3)
            one, other = random.choice(found), random.choice(found)
            with self.subTest(name=name, one=one, other=other):
                machines = [staying(made.telling, action) for action in (one, other)]
                shared = common(made, *machines)
                self.assertEqual(shared, both(*machines))
                self.assertIs(is_subgroup(made, shared), True)
                word = random_word(random, made.telling.letters, 6)
                self.assertIs(has_element(made, shared, word), led(one, 0, word) == 0 and led(other, 0, word) == 0)

    def test_machines_of_no_subgroup(self):
        random = Random(213)
        met = set()
        for name, made in list(MADE.items()) * 4:
            machine = staying(made.telling, random.choice(actions(made, 2)))
            changed = with_a_change(random, machine)
            found = subgroup_fault(made, changed)
            with self.subTest(name=name, machine=machine, found=found):
                self.assertIs(is_subgroup(made, changed), found is None)
                if found is None:
                    self.assertTrue(plain_is_subgroup(made, changed, 4))
                else:
                    self.assertIs(is_fault(made, changed, found), True)
                    with self.assertRaises(Undefined):
                        has_element(made, changed, ())
            met.add(found and found[0])
        self.assertEqual(met, {None, "empty", "stray", "left"})

    def test_subgroups_made_by_words(self):
        random = Random(214)
        for name, made in MADE.items():
            if made.size() is not None:
                for _ in range(4):
                    words = [random_word(random, made.telling.letters, random.randint(0, 5)) for _ in range(2)]
                    met = [()]
                    for here in met:
                        met.extend({made.times(here, word) for word in words} - set(met))
                    with self.subTest(name=name, words=words):
                        machine = made_subgroup(made, words, 60)
                        self.assertEqual([machine.takes(word) for word in met], [True] * len(met))
                        self.assertIs(is_subgroup(made, machine), True)
                        self.assertEqual(index(made, machine, 60) * len(met), made.size())
                        self.assertIsNone(made_subgroup(made, words, len(met) - 1) if len(met) > 1 else None)

    def test_finite_subgroups_of_endless_groups(self):
        letters = {"mirrors beside round four": ((2,), 4), "two joined to round three": ((1,), 3),
                   "whole numbers joined to mirrors": ((2,), 2), "swaps joined to two": ((2,), 2), "squares": ((0,), 2)}
        for name, (word, many) in letters.items():
            made = MADE[name]
            for turn in ((), (0, 1), (1, 2, 0)):
                turned = turn + word + tuple(made.telling.undo[x] for x in reversed(turn))
                machine = made_subgroup(made, [turned], many)
                self.assertIs(is_subgroup(made, machine), True)
                self.assertIs(has_element(made, machine, turned), True)
                self.assertIsNone(made_subgroup(made, [turned], many - 1))
                self.assertIsNone(index(made, machine, 60))

    def test_parts_of_what_stands_beside(self):
        plane = MADE["plane"]
        self.assertIs(is_subgroup(plane, powers(4, 0, 1)), True)
        self.assertIs(is_subgroup(plane, powers(4, 2, 3)), True)
        self.assertEqual(common(plane, powers(4, 0, 1), powers(4, 2, 3)), taking(4, [()]))
        self.assertEqual(subgroup_fault(plane, Machine(4, [(0, 0, None, None)], [1]))[0], "stray")
        self.assertEqual(made_subgroup(MADE["swaps beside two"], [(0,), (1,)], 60), SWAPS_ALONE)

    def test_sixty_sets(self):
        whole = MADE["whole numbers"]
        self.assertEqual(index(whole, staying(whole.telling, around(60)), 60), 60)
        self.assertIsNone(index(whole, staying(whole.telling, around(60)), 59))


# The normal words of the swaps, over a letter more.
SWAPS_ALONE = Machine(3, [row + (None,) for row in SWAPS.telling.words.table], SWAPS.telling.words.ends)


if __name__ == "__main__":
    unittest.main()
