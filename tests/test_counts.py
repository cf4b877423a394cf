"""Point 8: how many words machines take (with points 1, 2 and 4 as far as they speak of these)."""

import unittest
from itertools import product
from random import Random

from normalwords.counts import count, growth, recursion, total
from normalwords.errors import InvalidNumber
from normalwords.languages import has_beginnings, least_machine
from normalwords.machines import Machine
from normalwords.relations import all_pairs, equal_pairs
from reference import (
    ODD_VALUES, all_words, no_words, random_machine, random_machines, taken, taking, words_up_to)

# Words with no two letters 1 side by side.
FIBONACCI = Machine(2, [(0, 1), (0, None)], [1, 1])
# Words of some 0, then some 1, then some 2.
RISING = Machine(3, [(0, 1, 2), (None, 1, 2), (None, None, 2)], [1, 1, 1])


def live(machine):
    """The live states, found by trying words."""
    words = words_up_to(machine.letters, len(machine))
    found = []
    for state in range(len(machine)):
        ahead = any(machine.state_after(word) == state for word in words)
        if ahead and any(machine.ends[t] == 1 for t in runs(machine, state, words).values()):
            found.append(state)
    return found


def runs(machine, state, words):
    """The states to which words lead from a state."""
    found = {(): state}
    for word in words[1:]:
        before = found.get(word[:-1])
        after = None if before is None else machine.table[before][word[-1]]
        if after is not None:
            found[word] = after
    return {word: found[word] for word in words if word in found}


def plain_growth(machine):
    """Growth as the document tells it, by trying words."""
    states = live(machine)
    words = words_up_to(machine.letters, 2 * len(machine))
    after = {s: {word: t for word, t in runs(machine, s, words).items() if word and t in states}
             for s in states}
    loops = set()
    for s in states:
        back = [word for word, t in after[s].items() if t == s]
        if any(one[:n] != other[:n] for one in back for other in back
               for n in [min(len(one), len(other))]):
            return ("exponential",)
        if back:
            shortest = back[0]
            loops.add(frozenset(runs(machine, s, words)[shortest[:n]] for n in range(len(shortest))))
    if not loops:
        return ("finite",)

    def most(loop):
        return 1 + max([most(other) for other in loops if other != loop
                        and other & set(after[min(loop)].values())], default=0)

    return ("power", max(most(loop) for loop in loops))


class Count(unittest.TestCase):
    def test_many_machines(self):
        for machine in random_machines(11, 100):
            words = taken(machine, 6)
            for length in range(7):
                self.assertEqual(count(machine, length), len([w for w in words if len(w) == length]))

    def test_long_lengths(self):
        self.assertEqual(count(all_words(3), 40), 3 ** 40)
        self.assertEqual(count(machine=FIBONACCI, length=40), 267914296)
        self.assertEqual(count(RISING, 40), 42 * 41 // 2)
        ring = Machine(2, [((s + 1) % 8, None) for s in range(8)], [0, 0, 0, 0, 0, 0, 0, 1])
        self.assertEqual([n for n in range(41) if count(ring, n) > 0], [7, 15, 23, 31, 39])

    def test_edges(self):
        self.assertEqual(count(no_words(2), 0), 0)
        self.assertEqual(count(no_words(2), 40), 0)
        self.assertEqual(count(all_words(2), 0), 1)
        self.assertEqual(count(Machine(1, [(0,)], [0]), 3), 0)

    def test_wrong_lengths(self):
        for value in ODD_VALUES + (-10 ** 20, (3,), "3"):
            with self.assertRaises(InvalidNumber) as caught:
                count(FIBONACCI, value)
            self.assertIs(caught.exception.value, value)


class Recursion(unittest.TestCase):
    def check(self, machine):
        told = recursion(machine)
        size = len(least_machine(machine))
        self.assertIsInstance(told, tuple)
        self.assertEqual(len(told), size)
        self.assertEqual({type(c) for c in told}, {int})
        counts = [count(machine, n) for n in range(size + 25)]
        for n in range(size, size + 25):
            self.assertEqual(counts[n], sum(c * counts[n - i - 1] for i, c in enumerate(told)))

    def test_many_machines(self):
        for machine in random_machines(12, 150, 3, 8):
            self.check(machine)

    def test_machines_of_eight_states(self):
        random = Random(13)
        for _ in range(30):
            self.check(random_machine(random, 3, 8, 0.1))

    def test_edges(self):
        for machine in (no_words(1), all_words(1), all_words(3), FIBONACCI, RISING, taking(2, [(0, 1)]),
                        Machine(1, [(1,), (1,), (0,)], [0, 0, 1])):
            self.check(machine)
        self.assertEqual(recursion(machine=all_words(3)), (3,))

    def test_what_the_package_returned(self):
        self.check(all_pairs(FIBONACCI, FIBONACCI))


class Total(unittest.TestCase):
    def test_many_machines(self):
        told = set()
        for machine in random_machines(14, 300, 2, 4):
            size = len(machine)
            words = taken(machine, 2 * size)
            right = None if any(len(word) >= size for word in words) else len(words)
            self.assertEqual(total(machine), right)
            told.add(right is None)
        self.assertEqual(told, {True, False})

    def test_edges(self):
        self.assertEqual(total(no_words(2)), 0)
        self.assertIsNone(total(machine=all_words(1)))
        self.assertEqual(total(taking(2, [()])), 1)
        self.assertEqual(total(taking(3, words_up_to(3, 4))), 121)
        # A ring whose states lead to nothing taken, and one to which nothing leads.
        self.assertEqual(total(Machine(2, [(1, 2), (1, 1), (None, None), (3, 2)], [1, 0, 1, 0])), 2)

    def test_a_long_ring(self):
        ring = Machine(1, [((s + 1) % 8,) for s in range(8)], [0] * 7 + [1])
        self.assertIsNone(total(ring))


class Growth(unittest.TestCase):
    def test_its_three_kinds(self):
        self.assertEqual(growth(no_words(2)), ("finite",))
        self.assertEqual(growth(taking(2, [(0, 1), (1,)])), ("finite",))
        self.assertEqual(growth(all_words(1)), ("power", 1))
        self.assertEqual(growth(machine=RISING), ("power", 3))
        self.assertEqual(growth(all_words(2)), ("exponential",))
        self.assertEqual(growth(FIBONACCI), ("exponential",))

    def test_rings_behind_one_another(self):
        # Rings of two, three and one states, the second and third one reached from the first.
        machine = Machine(2, [(1, 2), (0, 5), (3, None), (4, None), (2, None), (None, 5)], [1] * 6)
        self.assertEqual(growth(machine), ("power", 2))
        chained = Machine(2, [(1, 2), (0, 5), (3, None), (4, 5), (2, None), (None, 5)], [1] * 6)
        self.assertEqual(growth(chained), ("power", 3))
        # Between two rings there may be states in no ring.
        apart = Machine(2, [(0, 1), (2, 2), (3, None), (3, None)], [0, 0, 0, 1])
        self.assertEqual(growth(apart), ("power", 2))

    def test_four_rings(self):
        machine = Machine(2, [(0, 1), (1, 2), (2, 3), (3, None)], [1] * 4)
        self.assertEqual(growth(machine), ("power", 4))

    def test_rings_that_are_not_live(self):
        # Behind one ring there is a second one, from which nothing taken is reached.
        machine = Machine(2, [(0, 1), (1, 1)], [1, 0])
        self.assertEqual(growth(machine), ("power", 1))
        self.assertEqual(growth(Machine(1, [(None,), (1,)], [1, 1])), ("finite",))

    def test_two_ways_back(self):
        two = Machine(2, [(1, 2), (0, None), (None, 0)], [1, 0, 0])
        self.assertEqual(growth(two), ("exponential",))
        # Two letters to one state are two ways.
        self.assertEqual(growth(Machine(2, [(1, 1), (0, None)], [1, 0])), ("exponential",))
        # Behind rings, too.
        self.assertEqual(growth(Machine(2, [(0, 1), (2, 2), (1, None)], [1, 1, 1])), ("exponential",))

    def test_many_machines(self):
        told = set()
        random = Random(15)
        for _ in range(400):
            machine = random_machine(random, 2, random.randint(1, 4), random.choice((0.3, 0.5, 0.6)))
            right = plain_growth(machine)
            self.assertEqual(growth(machine), right)
            self.assertEqual(growth(least_machine(machine)), right)
            told.add(right)
        self.assertLessEqual({("finite",), ("exponential",), ("power", 1), ("power", 2)}, told)

    def test_all_machines_of_two_states(self):
        rows = list(product((None, 0, 1), repeat=2))
        for table in product(rows, repeat=2):
            for ends in product((0, 1), repeat=2):
                machine = Machine(2, table, ends)
                self.assertEqual(growth(machine), plain_growth(machine))
                self.assertIs(growth(machine) == ("finite",), total(machine) is not None)

    def test_what_holds_of_the_numbers(self):
        random = Random(16)
        seen = set()
        for _ in range(600):
            machine = random_machine(random, random.randint(1, 3), random.randint(1, 6),
                                     random.choice((0.2, 0.5, 0.7)))
            machine = Machine(machine.letters, machine.table, [1] * len(machine))
            self.assertTrue(has_beginnings(machine))
            kind = growth(machine)
            seen.add(kind[0])
            m = len(least_machine(machine))
            sums = [count(machine, 0)]
            for n in range(1, 40):
                sums.append(sums[-1] + count(machine, n))
            if kind == ("finite",):
                self.assertEqual(sums[m - 1], sums[-1])
            elif kind == ("exponential",):
                for n in range(m - 1, 40):
                    self.assertGreaterEqual(sums[n], 2 ** ((n + 1 - m) // (2 * m)))
            else:
                for n in range(40):
                    self.assertLessEqual(((n + 1) // m) ** kind[1], sums[n])
                    self.assertLessEqual(sums[n], sums[m - 1] * (n + 1) ** kind[1])
        self.assertEqual(seen, {"finite", "exponential", "power"})

    def test_large_ones(self):
        states = 400
        chain = Machine(1, [(s + 1,) for s in range(states - 1)] + [(states - 1,)], [1] * states)
        self.assertEqual(growth(chain), ("power", 1))
        ended = Machine(2, [(s + 1, None) for s in range(states - 1)] + [(None, 0)], [0] * (states - 1) + [1])
        self.assertEqual(growth(ended), ("power", 1))
        self.assertEqual(growth(equal_pairs(RISING)), ("power", 3))


class Basics(unittest.TestCase):
    def test_arguments_stay_and_results_are_the_same_again(self):
        machine = Machine(2, [(0, 1), (None, 2), (2, 0)], [1, 0, 1])
        copy = Machine(machine.letters, machine.table, machine.ends)
        for function in (recursion, total, growth):
            self.assertEqual(function(machine), function(machine))
        self.assertEqual(count(machine, 9), count(machine, 9))
        self.assertEqual(machine, copy)


if __name__ == "__main__":
    unittest.main()
