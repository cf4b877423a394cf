"""Points 21 and 22: machines of subgroups (with points 1, 2 and 4 as far as they speak of
these)."""

import unittest
from random import Random

from normalwords.errors import InvalidNumber, InvalidWord, Undefined
from normalwords.groups import Group
from normalwords.languages import both, least_machine
from normalwords.machines import Machine
from normalwords.subgroups import (
    common, has_element, index, is_fault, is_subgroup, loop_words, made_subgroup, subgroup_fault)
from normalwords.words import undone
from reference import ODD_VALUES, all_words, no_words, random_machine, takes, taking, words_up_to
from samples import GROUPS, group, group_sample, permuted

# What letters do to points 0, 1, .. in ways that agree with the rules of the groups.
ACTIONS = (
    ("one", ((0,),)),
    ("two", ((1, 0),)),
    ("two", ((0, 1),)),
    ("three, with nothing", ((0, 1, 2), (1, 2, 0), (2, 0, 1))),
    ("seven, deep", ((0,),) * 4),
    ("twelve", ((1, 2, 3, 0), (3, 0, 1, 2), (3, 0, 1, 2), (1, 2, 3, 0))),
    ("twelve", ((1, 0), (1, 0), (1, 0), (1, 0))),
    ("swaps", ((1, 0, 2), (0, 2, 1))),
    ("swaps", ((1, 0), (1, 0))),
    ("swap and turn", ((0, 2, 1), (1, 2, 0), (2, 0, 1))),
    ("swaps, deep", ((0, 2, 1), (1, 0, 2))),
    ("whole", ((1, 2, 0), (2, 0, 1))),
    ("whole", ((1, 2, 3, 4, 5, 0), (5, 0, 1, 2, 3, 4))),
    ("far", ((1, 2, 3, 0), (3, 0, 1, 2), (2, 3, 0, 1), (2, 3, 0, 1))),
    ("mirrors", ((1, 0, 2, 3), (0, 2, 1, 3))),
    ("mirrors", ((1, 0, 3, 2), (3, 2, 1, 0))),
    ("free", ((1, 0), (1, 0), (0, 1), (0, 1))),
    ("free", ((1, 2, 0), (2, 0, 1), (1, 0, 2), (1, 0, 2))),
    ("free with a mirror", ((1, 2, 0), (2, 0, 1), (0, 2, 1))),
    ("plane", ((1, 2, 0), (2, 0, 1), (0, 1, 2), (0, 1, 2))),
    ("plane", ((1, 0, 3, 2), (1, 0, 3, 2), (2, 3, 0, 1), (2, 3, 0, 1))),
    ("plane, turned", ((1, 2, 0), (2, 0, 1), (2, 0, 1), (1, 2, 0))),
    ("bottle", ((1, 2, 0), (2, 0, 1), (0, 2, 1), (0, 2, 1))),
    ("modular", ((1, 0, 2), (1, 2, 0), (2, 0, 1))),
    ("triangle 2 4 4", ((1, 0), (1, 0), (0, 1))),
    ("triangle 4 4 4", ((0, 1), (1, 0), (0, 1))),
    ("four mirrors", ((1, 0), (1, 0), (0, 1), (1, 0))),
)


def staying(telling, action):
    """The machine of the normal words that lead the point 0 to itself."""
    points = range(len(action[0]))
    table = [tuple(action[x][point] for x in range(telling.letters)) for point in points]
    return both(telling.words, Machine(telling.letters, table, [1] + [0] * (len(action[0]) - 1)))


def reached(action):
    """How many points letters lead to from the point 0."""
    met = [0]
    for point in met:
        met.extend({row[point] for row in action} - set(met))
    return len(met)


def around(n):
    """Letters that lead n points around, and back."""
    return (tuple((point + 1) % n for point in range(n)), tuple((point - 1) % n for point in range(n)))


def powers(letters, x, y):
    """The machine of the words of the letter x alone, and of y alone."""
    def row(state):
        return tuple(1 if z == x and state != 2 else 2 if z == y and state != 1 else None for z in range(letters))
    return Machine(letters, [row(0), row(1), row(2)], [1, 1, 1])


def plain_loop_words(group_, machine):
    """The loop words, the first words to states being found by trying all words in order."""
    least = least_machine(machine)
    ways = {}
    for word in words_up_to(least.letters, len(least) - 1):
        if least.state_after(word) is not None:
            ways.setdefault(least.state_after(word), word)
    undo = group_.telling.undo
    told = set()
    for s, way in ways.items():
        if least.ends[s] == 1:
            told.add(group_.normal(way))
        for x, t in enumerate(least.table[s]):
            if t is not None:
                told.add(group_.normal(way + (x,) + undone(undo, ways[t])))
    return tuple(sorted(told - {()}, key=lambda word: (len(word), word)))


def plain_is_subgroup(group_, machine, length):
    """Whether this is so as far as words of at most so many letters tell; for a finite machine
    that takes no longer ones it is so."""
    words = [word for word in words_up_to(machine.letters, length) if takes(machine, word)]
    if () not in words or any(not takes(group_.telling.words, word) for word in words):
        return False
    return all(takes(machine, group_.times(u, group_.undone(v))) for u in words for v in words)


def with_a_change(random, machine):
    """The machine with one bit, or one place of its table, made another one at random."""
    rows, ends = [list(row) for row in machine.table], list(machine.ends)
    state = random.randrange(len(rows))
    if random.random() < 0.5:
        ends[state] = 1 - ends[state]
    else:
        rows[state][random.randrange(len(rows[0]))] = random.choice([None] + list(range(len(rows))))
    return Machine(machine.letters, [tuple(row) for row in rows], ends)


class LoopWords(unittest.TestCase):
    def test_by_hand(self):
        plane = group("plane")
        self.assertEqual(loop_words(plane, powers(4, 0, 1)), ((0,), (1,)))
        self.assertEqual(loop_words(plane, plane.telling.words), ((0,), (1,), (2,), (3,)))
        self.assertEqual(loop_words(group=plane, machine=taking(4, [()])), ())
        self.assertEqual(loop_words(plane, taking(4, [(), (0, 2), (2, 0)])), ((0, 2),))
        # A word that is taken and is nothing tells nothing.
        self.assertEqual(loop_words(plane, taking(4, [(), (0, 1)])), ())

    def test_machines_of_none(self):
        random = Random(121)
        for _ in range(60):
            name = random.choice(("plane", "swaps", "modular", "far", "whole", "twelve"))
            letters = group(name).telling.letters
            machine = random_machine(random, letters, random.randint(1, 5), random.choice((0.3, 0.6)))
            words = loop_words(group(name), machine)
            self.assertIsInstance(words, tuple)
            self.assertEqual(words, plain_loop_words(group(name), machine))

    def test_machines_of_subgroups(self):
        for name, action in ACTIONS:
            machine = staying(group(name).telling, action)
            if group(name).telling.letters ** len(machine) < 10 ** 5:
                self.assertEqual(loop_words(group(name), machine), plain_loop_words(group(name), machine))

    def test_states_that_lead_to_no_taken_word(self):
        machine = Machine(2, [(1, 3), (1, 2), (3, None), (3, 3), (0, 0)], [1, 1, 0, 0, 1])
        self.assertEqual(loop_words(group("whole"), machine), ((0,),))

    def test_nothing_is_taken(self):
        for name in ("plane", "free"):
            self.assertEqual(loop_words(group(name), no_words(4)), ())
            self.assertEqual(loop_words(group(name), Machine(4, [(0,) * 4], [0])), ())

    def test_the_loop_words_make_the_subgroup(self):
        for name, action in ACTIONS:
            made = group(name)
            machine = staying(made.telling, action)
            loops = loop_words(made, machine)
            self.assertTrue(all(machine.takes(word) for word in loops))
            if made.size() is not None:
                self.assertEqual(made_subgroup(made, loops, 60), machine)


class Faults(unittest.TestCase):
    def test_empty(self):
        for machine in (no_words(4), taking(4, [(0,)]), taking(4, [(0, 1)])):
            found = subgroup_fault(group("plane"), machine)
            self.assertTrue(is_fault(group("plane"), machine, found))
            self.assertIs(is_fault(group("plane"), machine, ("empty",)), True)
            self.assertIs(is_subgroup(group("plane"), machine), False)
        self.assertEqual(subgroup_fault(group("plane"), no_words(4)), ("empty",))

    def test_stray(self):
        for machine in (all_words(4), taking(4, [(), (0, 1)]), taking(4, [(), (2, 0)])):
            found = subgroup_fault(group=group("plane"), machine=machine)
            self.assertIn(found[0], ("stray", "left"))
            self.assertIs(is_fault(group=group("plane"), machine=machine, value=found), True)
            self.assertIs(is_subgroup(group=group("plane"), machine=machine), False)
        self.assertEqual(subgroup_fault(group("plane"), taking(4, [(), (0, 1)])), ("stray", (0, 1)))

    def test_left(self):
        half = Machine(2, [(1, None), (1, None)], [1, 1])
        gapped = Machine(2, [(1, 2), (1, None), (None, 2)], [1, 1, 1])
        for name, machine in (("whole", half), ("whole", taking(2, [(), (0,)])), ("mirrors", taking(2, [(), (0, 1)])),
                              ("plane", taking(4, [(), (0,), (1,)])), ("swaps", taking(2, [(), (0,), (1,)]))):
            found = subgroup_fault(group(name), machine)
            self.assertEqual(found[0], "left")
            self.assertIs(is_fault(group(name), machine, found), True)
            self.assertIs(is_subgroup(group(name), machine), False)
        self.assertIsNone(subgroup_fault(group("whole"), gapped))

    def test_products_stay_but_not_what_undoes(self):
        # Closed under adding what is taken; only what undoes a loop word leads out.
        half = Machine(2, [(1, None), (1, None)], [1, 1])
        found = subgroup_fault(group("whole"), half)
        self.assertEqual(found, ("left", (), (1,)))

    def test_none(self):
        for name, action in ACTIONS:
            with self.subTest(name=name, action=action):
                machine = staying(group(name).telling, action)
                self.assertIsNone(subgroup_fault(group(name), machine))
                self.assertIs(is_subgroup(group(name), machine), True)
                self.assertIs(is_fault(group(name), machine, ("empty",)), False)
        for name in GROUPS:
            letters = group(name).telling.letters
            self.assertIs(is_subgroup(group(name), taking(letters, [()])), True)
            self.assertIs(is_subgroup(group(name), group(name).telling.words), True)

    def test_subgroups_with_a_change(self):
        random = Random(122)
        met = []
        for _ in range(150):
            name, action = random.choice([pair for pair in ACTIONS if "triangle" not in pair[0]])
            made = group(name)
            machine = staying(made.telling, action)
            changed = with_a_change(random, machine)
            found = subgroup_fault(made, changed)
            self.assertIs(is_subgroup(made, changed), found is None)
            if found is not None:
                self.assertIs(is_fault(made, changed, found), True, found)
            else:
                self.assertTrue(plain_is_subgroup(made, changed, 4))
            met.append(found and found[0])
        self.assertEqual(set(met), {None, "empty", "stray", "left"})

    def test_some_words_of_finite_groups(self):
        random = Random(123)
        met = []
        for _ in range(150):
            name = random.choice(("two", "three, with nothing", "twelve", "swaps", "swap and turn", "swaps, deep"))
            made = group(name)
            normal = [word for word in words_up_to(made.telling.letters, 5 if made.telling.letters < 4 else 3)
                      if takes(made.telling.words, word)]
            words = random.sample(normal, random.randint(1, min(4, len(normal))))
            if random.random() < 0.9:
                words = sorted(set(words + [()]))
            machine = taking(made.telling.letters, words)
            right = plain_is_subgroup(made, machine, 5 if made.telling.letters < 4 else 3)
            self.assertIs(is_subgroup(made, machine), right)
            found = subgroup_fault(made, machine)
            self.assertEqual(found is None, right)
            self.assertTrue(right or is_fault(made, machine, found))
            met.append(right)
        self.assertGreater(met.count(True), 20)
        self.assertGreater(met.count(False), 20)


class FaultValues(unittest.TestCase):
    def right_and_wrong(self, machine, right, wrong, name="plane"):
        for value in right:
            self.assertIs(is_fault(group(name), machine, value), True, value)
        for value in wrong:
            self.assertIs(is_fault(group(name), machine, value), False, value)

    def test_empty(self):
        wrong = [["empty"], "empty", ("empty", ()), (("empty",),), ("Empty",)]
        self.right_and_wrong(taking(4, [(0,)]), [("empty",)], wrong)
        self.right_and_wrong(taking(4, [()]), [], [("empty",)])

    def test_stray(self):
        machine = taking(4, [(), (0, 1), (0,), (2, 0)])
        self.right_and_wrong(machine, [("stray", (0, 1)), ("stray", (2, 0))], [
            ("stray", (0,)), ("stray", ()), ("stray", (1, 0)), ("stray", [0, 1]), ("stray", (0, True)),
            ("stray", (0, 1), ()), ("stray",), ["stray", (0, 1)], ("stray", None), ("stray", (4,)), ("stray", "01"),
            ("Stray", (0, 1))])

    def test_left(self):
        machine = taking(4, [(), (0,), (2,)])
        self.assertEqual(loop_words(group("plane"), machine), ((0,), (1, 2)))
        right = [("left", (0,), (0,)), ("left", (2,), (0,)), ("left", (), (1,)), ("left", (2,), (1,)),
                 ("left", (), (1, 2)), ("left", (2,), (1, 2)), ("left", (), (0, 3)), ("left", (0,), (0, 3))]
        wrong = [("left", (), (0,)), ("left", (0,), (1,)), ("left", (0,), (1, 2)), ("left", (2,), (0, 3)),
                 ("left", (0,), (2,)), ("left", (2,), (2,)), ("left", (), (3,)), ("left", (1,), (0,)),
                 ("left", (), (0, 0)), ("left", (0,), ()), ("left", (0, 0), (0,)), ("left", (), (2, 1)),
                 ("left", (), (3, 0)), ("Left", (0,), (0,)), ("", (0,), (0,)), (0, (0,), (0,)),
                 ("left", [], (1,)), ("left", (), [1]), ("left", (), (True,)),
                 ("left", (False,), (0,)), ("left", (0,)), ("left", (), (1,), ()), ["left", (), (1,)],
                 ("left", None, (1,)), ("left", (), None), ("left", (), (5,)), ("left", (9,), (1,)), ("left", (), 1)]
        self.right_and_wrong(machine, right, wrong)

    def test_left_from_a_word_that_is_not_normal(self):
        # (0, 1, 0) is taken and times (0,) it is (0, 0), which is not taken.
        machine = taking(4, [(), (0, 1, 0)])
        self.assertEqual(loop_words(group("plane"), machine), ((0,),))
        self.right_and_wrong(machine, [("left", (0, 1, 0), (0,)), ("left", (), (0,)), ("left", (), (1,))],
                             [("left", (0, 1, 0), (1,)), ("left", (0,), (0,))])

    def test_letters_that_undo_themselves(self):
        machine = taking(2, [(), (0, 1)])
        self.assertEqual(loop_words(group("mirrors"), machine), ((0, 1),))
        self.right_and_wrong(machine, [("left", (0, 1), (0, 1)), ("left", (), (1, 0))],
                             [("left", (0, 1), (1, 0)), ("left", (), (0,)), ("left", (), (0, 1))], "mirrors")

    def test_other_values(self):
        nested = ()
        for _ in range(9):
            nested = (nested, [nested])
        plane = group("plane")
        values = ODD_VALUES + (nested, [nested], ("left", nested, nested), ("stray", nested), plane, plane.telling, (),
                               (plane,), ("stray", plane), ("left", plane, plane), ("empty", plane), ([],), ((), ()),
                               (None, ()), (True,), ("", ()), ("index",))
        for machine in (no_words(4), taking(4, [()]), taking(4, [(), (0, 1)]), taking(4, [(), (0,)])):
            self.right_and_wrong(machine, [], values)


class HasElement(unittest.TestCase):
    def test_all_actions(self):
        for name, action in ACTIONS:
            with self.subTest(name=name, action=action):
                made = group(name)
                machine = staying(made.telling, action)
                for word in words_up_to(made.telling.letters, 3)[::3]:
                    point = 0
                    for x in word:
                        point = action[x][point]
                    self.assertIs(has_element(made, machine, word), point == 0)

    def test_words_that_are_not_normal(self):
        plane = group("plane")
        line = powers(4, 0, 1)
        self.assertIs(has_element(group=plane, machine=line, word=(2, 0, 3)), True)
        self.assertIs(has_element(plane, line, (2, 0, 3, 2)), False)
        self.assertIs(has_element(plane, line, (2, 0) * 10 + (3,) * 10), True)
        self.assertIs(has_element(plane, taking(4, [()]), (0, 2, 1, 3)), True)


class Common(unittest.TestCase):
    def test_two_subgroups(self):
        for name, first in ACTIONS:
            for other_name, second in ACTIONS:
                if name == other_name:
                    made = group(name)
                    one, other = staying(made.telling, first), staying(made.telling, second)
                    told = common(made, one, other)
                    self.assertEqual(told, both(one, other))
                    self.assertTrue(is_subgroup(made, told))

    def test_by_hand(self):
        plane = group("plane")
        self.assertEqual(common(group=plane, one=powers(4, 0, 1), other=powers(4, 2, 3)), taking(4, [()]))
        self.assertEqual(common(plane, powers(4, 0, 1), plane.telling.words), least_machine(powers(4, 0, 1)))
        whole = group("whole")
        twos, threes = [staying(whole.telling, around(n)) for n in (2, 3)]
        self.assertEqual(index(whole, common(whole, twos, threes), 60), 6)


class Made(unittest.TestCase):
    def test_no_words(self):
        for name in GROUPS:
            letters = group(name).telling.letters
            for words in ([], (), [()], [(), ()]):
                self.assertEqual(made_subgroup(group(name), words, 1), taking(letters, [()]))

    def test_subgroups_of_finite_groups(self):
        random = Random(124)
        for _ in range(60):
            name = random.choice([name for name in GROUPS if group(name).size() is not None])
            sample, made = group_sample(name), group(name)
            words = [tuple(random.randrange(made.telling.letters) for _ in range(random.randint(0, 6)))
                     for _ in range(random.randint(0, 3))]
            met = {sample.one: ()}
            waiting = [()]
            for here in waiting:
                for word in words:
                    if sample.element(here + word) not in met:
                        met[sample.element(here + word)] = made.normal(here + word)
                        waiting.append(here + word)
            right = least_machine(taking(made.telling.letters, list(met.values())))
            self.assertEqual(made_subgroup(made, words, 60), right)
            self.assertEqual(made_subgroup(made, tuple(words), len(met)), right)
            self.assertTrue(is_subgroup(made, right))
            if len(met) > 1:
                self.assertIsNone(made_subgroup(made, words, len(met) - 1))
            self.assertEqual(index(made, right, 60), made.size() // len(met))

    def test_finite_subgroups_of_endless_groups(self):
        self.assertEqual(made_subgroup(group("mirrors"), [(0, 1, 0)], 2), least_machine(taking(2, [(), (0, 1, 0)])))
        self.assertIsNone(made_subgroup(group("mirrors"), [(0, 1, 0)], 1))
        self.assertIsNone(made_subgroup(group("mirrors"), [(0,), (1,)], 60))
        self.assertEqual(made_subgroup(group("modular"), [(1,)], 3), least_machine(taking(3, [(), (1,), (2,)])))
        square = made_subgroup(group=group("triangle 4 4 4"), words=[(0,), (1,)], most=8)
        self.assertTrue(is_subgroup(group("triangle 4 4 4"), square))
        self.assertIsNone(made_subgroup(group("triangle 4 4 4"), [(0,), (1,)], 7))

    def test_endless_subgroups(self):
        for words in ([(0,)], [(0, 2)], [(0,), (1,)], [(), (2,)], [(0, 2) * 20]):
            for most in (1, 2, 60):
                self.assertIsNone(made_subgroup(group("plane"), words, most))
                self.assertIsNone(made_subgroup(group("free"), words, most))

    def test_symmetric_group_of_four(self):
        made = Group(permuted((0, 2, 1), ((1, 0, 2, 3), (1, 2, 3, 0), (3, 0, 1, 2))).telling)
        for words, many in (([(0,)], 2), ([(1,)], 4), ([(1, 1)], 2), ([(0, 1)], 3), ([(0,), (1,)], 24),
                            ([(1, 1), (0,)], 8)):
            machine = made_subgroup(made, words, many)
            self.assertTrue(is_subgroup(made, machine))
            self.assertEqual(index(made, machine, 60), 24 // many)
            self.assertIsNone(made_subgroup(made, words, many - 1))


class Index(unittest.TestCase):
    def test_all_actions(self):
        for name, action in ACTIONS:
            with self.subTest(name=name, action=action):
                machine = staying(group(name).telling, action)
                many = reached(action)
                self.assertEqual(index(group(name), machine, 60), many)
                self.assertEqual(index(group(name), machine, many), many)
                if many > 1:
                    self.assertIsNone(index(group(name), machine, many - 1))

    def test_endlessly_many_sets(self):
        self.assertIsNone(index(group("whole"), taking(2, [()]), 60))
        self.assertIsNone(index(group("plane"), powers(4, 0, 1), 60))
        self.assertIsNone(index(group("free"), powers(4, 0, 1), 60))
        self.assertIsNone(index(group=group("mirrors"), machine=taking(2, [(), (0,)]), most=60))

    def test_finite_groups(self):
        for name in GROUPS:
            made = group(name)
            if made.size() is not None:
                self.assertEqual(index(made, taking(made.telling.letters, [()]), 60), made.size())
                self.assertEqual(index(made, made.telling.words, 1), 1)

    def test_sixty(self):
        whole = group("whole")
        self.assertEqual(index(whole, staying(whole.telling, around(60)), 60), 60)
        self.assertIsNone(index(whole, staying(whole.telling, around(60)), 59))


class Wrong(unittest.TestCase):
    def refused(self, what, call, *arguments):
        with self.assertRaises(Undefined) as caught:
            call(*arguments)
        self.assertEqual(caught.exception.what, what)

    def test_other_letters(self):
        plane = group("plane")
        for machine in (taking(2, [()]), all_words(3), no_words(24), group("whole").telling.words):
            for call in (loop_words, subgroup_fault, is_subgroup):
                self.refused("letters", call, plane, machine)
            for value in (("empty",), None, ("stray", (0, 1))):
                self.refused("letters", is_fault, plane, machine, value)
            # Ahead of what else is wrong.
            self.refused("letters", has_element, plane, machine, None)
            self.refused("letters", index, plane, machine, 0)
            self.refused("letters", common, plane, machine, no_words(4))

    def test_no_subgroup(self):
        plane = group("plane")
        for machine in (no_words(4), all_words(4), taking(4, [(), (0,)]), taking(4, [(0,)])):
            for value in ((), None, (4,)):
                self.refused("subgroup", has_element, plane, machine, value)
            for most in (1, 0, None):
                self.refused("subgroup", index, plane, machine, most)
            self.refused("subgroup", common, plane, machine, plane.telling.words)
            self.refused("subgroup", common, plane, plane.telling.words, machine)

    def test_both_errors_for_one_ahead_of_both_for_other(self):
        plane = group("plane")
        self.refused("subgroup", common, plane, no_words(4), no_words(3))
        self.refused("letters", common, plane, no_words(3), no_words(4))
        self.refused("letters", common, plane, plane.telling.words, no_words(3))
        self.refused("subgroup", common, plane, taking(4, [(), (0,)]), plane.telling.words)

    def test_words(self):
        for value in ODD_VALUES + ((4,), [], [0], (0, True), "00"):
            with self.assertRaises(InvalidWord) as caught:
                has_element(group("plane"), powers(4, 0, 1), value)
            self.assertIs(caught.exception.value, value)
            for words in ([value], [(0,), value], [(), value, None], (value, value)):
                for most in (1, 0, None):
                    with self.assertRaises(InvalidWord) as caught:
                        made_subgroup(group("plane"), words, most)
                    self.assertIs(caught.exception.value, value)

    def test_no_sequence_of_words(self):
        for words in (None, True, 0, "", "01", group("plane"), all_words(4)):
            for most in (1, 0, None):
                with self.assertRaises(InvalidWord) as caught:
                    made_subgroup(group("plane"), words, most)
                self.assertIs(caught.exception.value, words)

    def test_numbers(self):
        for value in (0, -1, 61, 10 ** 20, True, False, None, "1", (1,), [], group("plane")):
            with self.assertRaises(InvalidNumber) as caught:
                made_subgroup(group("plane"), [(0,)], value)
            self.assertIs(caught.exception.value, value)
            with self.assertRaises(InvalidNumber) as caught:
                index(group("plane"), powers(4, 0, 1), value)
            self.assertIs(caught.exception.value, value)


class Limits(unittest.TestCase):
    def test_twelve_states(self):
        random = Random(125)
        for name in ("free", "plane", "four mirrors", "far", "twelve"):
            made = group(name)
            for _ in range(4):
                machine = both(made.telling.words, random_machine(random, 4, 2, 0.1))
                found = subgroup_fault(made, machine)
                self.assertTrue(found is None or is_fault(made, machine, found))

    def test_long_words(self):
        made = group("free")
        machine = staying(made.telling, ((1, 2, 0), (2, 0, 1), (1, 0, 2), (1, 0, 2)))
        self.assertIs(has_element(made, machine, (0, 2) * 20), True)
        self.assertIs(has_element(made, machine, (0, 2) * 19 + (0, 0)), False)


class Basics(unittest.TestCase):
    def test_arguments_stay_and_results_are_equal(self):
        made = Group(group_sample("plane").telling)
        words = [(0, 1), (2, 3)]
        self.assertEqual(made_subgroup(made, words, 3), made_subgroup(made, tuple(words), 3))
        self.assertEqual(words, [(0, 1), (2, 3)])
        machine = taking(4, [(), (0,)])
        self.assertEqual(subgroup_fault(made, machine), subgroup_fault(made, machine))
        self.assertEqual(machine, taking(4, [(), (0,)]))
        value = ["left", (), (1,)]
        is_fault(made, machine, value)
        self.assertEqual(value, ["left", (), (1,)])
        self.assertEqual(made, group("plane"))


if __name__ == "__main__":
    unittest.main()
