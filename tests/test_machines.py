"""Point 6: machines (with points 1 and 2 as far as they speak of these)."""

import unittest

from normalwords.errors import InvalidMachine, InvalidWord
from normalwords.machines import Machine
from reference import ODD_VALUES, random_machines, takes, words_up_to


class Making(unittest.TestCase):
    def test_attributes_are_tuples(self):
        machine = Machine(2, [(0, 1), (None, 1)], [1, 0])
        self.assertEqual(machine.letters, 2)
        self.assertEqual(machine.table, ((0, 1), (None, 1)))
        self.assertIsInstance(machine.table, tuple)
        self.assertEqual(machine.ends, (1, 0))
        self.assertIsInstance(machine.ends, tuple)
        self.assertEqual(len(machine), 2)

    def test_by_name_and_with_tuples(self):
        one = Machine(letters=1, table=((0,),), ends=(1,))
        self.assertEqual(one, Machine(1, [(0,)], [1]))

    def test_least_and_most_letters(self):
        self.assertEqual(Machine(1, [(None,)], [0]).letters, 1)
        self.assertEqual(Machine(48, [(0,) * 48], [1]).letters, 48)

    def test_later_changes_have_no_effect(self):
        table = [(0, 1), (None, 1)]
        ends = [1, 0]
        machine = Machine(2, table, ends)
        table[0] = (1, 1)
        table.append((0, 0))
        ends[1] = 1
        self.assertEqual(machine, Machine(2, [(0, 1), (None, 1)], [1, 0]))
        self.assertEqual(table, [(1, 1), (None, 1), (0, 0)])

    def test_arguments_stay(self):
        table = [(0, 1), (None, 1)]
        ends = [1, 0]
        machine = Machine(2, table, ends)
        machine.takes((0, 1))
        self.assertEqual((table, ends), ([(0, 1), (None, 1)], [1, 0]))


class Wrong(unittest.TestCase):
    def refused(self, part, place, letters, table, ends):
        with self.assertRaises(InvalidMachine) as caught:
            Machine(letters, table, ends)
        self.assertEqual((caught.exception.part, caught.exception.place), (part, place))

    def test_letters(self):
        for letters in (0, 49, -1, 10 ** 30, True, None, "2", (2,), [2]):
            self.refused("letters", 0, letters, [(0, 0)], [1])
        self.refused("letters", 0, True, [(0,)], [1])

    def test_no_sequence_of_rows(self):
        for table in (None, 0, 1, True, "ab", "", (), [], Machine(1, [(0,)], [1])):
            self.refused("table", 0, 2, table, [])

    def test_wrong_rows(self):
        right = (0, None)
        for row in ([0, 0], (0,), (0, 0, 0), (0, 3), (0, -1), (0, True), (False, 0), (0, "0"),
                    None, 0, "00", (0, (0,)), (), (0, [0])):
            for place in range(3):
                table = [right] * 3
                table[place] = row
                self.refused("table", place, 2, table, [1, 1, 1])
                self.refused("table", place, 2, tuple(table), [1, 1, 1])

    def test_the_first_wrong_row(self):
        self.refused("table", 1, 1, [(0,), (5,), [0], (0,)], [1, 1, 1, 1])

    def test_a_row_may_name_a_later_row_only_if_it_is_there(self):
        self.assertEqual(Machine(1, [(1,), (None,)], [0, 0]).table, ((1,), (None,)))
        self.refused("table", 0, 1, [(1,)], [0])

    def test_wrong_ends(self):
        for bit in (True, False, 2, -1, None, "1", (1,), [0]):
            for place in range(3):
                ends = [0, 1, 0]
                ends[place] = bit
                self.refused("ends", place, 1, [(0,)] * 3, ends)
                self.refused("ends", place, 1, [(0,)] * 3, tuple(ends))

    def test_no_sequence_of_ends(self):
        for ends in (None, 0, "1", "101", True):
            self.refused("ends", 0, 1, [(0,)] * 3, ends)

    def test_too_few_and_too_many_ends(self):
        self.refused("ends", 0, 1, [(0,)] * 3, [])
        self.refused("ends", 2, 1, [(0,)] * 3, [1, 0])
        self.refused("ends", 3, 1, [(0,)] * 3, [1, 0, 1, 1])
        self.refused("ends", 3, 1, [(0,)] * 3, [1, 0, 1, 1, 0, 1])
        self.refused("ends", 1, 1, [(0,)] * 3, [1, 2])
        self.refused("ends", 1, 1, [(0,)] * 3, [1, 2, 0, 1])
        self.refused("ends", 3, 1, [(0,)] * 3, [1, 0, 0, 7])
        self.refused("ends", 3, 1, [(0,)] * 3, [1, 0, 0, 0, 7])

    def test_two_faults_at_once(self):
        self.refused("letters", 0, 0, None, None)
        self.refused("letters", 0, 49, [(0,)], [2])
        self.refused("table", 1, 1, [(0,), (2,)], [2, 2])
        self.refused("table", 0, 1, [], [1])

    def test_wrong_beyond_the_limits_too(self):
        self.refused("ends", 499, 24, [(0,) * 24] * 500, [1] * 499)
        self.refused("table", 499, 24, [(0,) * 24] * 499 + [(500,) * 24], [1] * 500)


class Equality(unittest.TestCase):
    def test_equal_exactly_if_the_attributes_are(self):
        one = Machine(2, [(0, 1), (None, 1)], [1, 0])
        self.assertTrue(one == Machine(2, ((0, 1), (None, 1)), (1, 0)))
        self.assertFalse(one != Machine(2, ((0, 1), (None, 1)), (1, 0)))
        for other in (Machine(2, [(0, 1), (None, 1)], [1, 1]), Machine(2, [(0, 1), (0, 1)], [1, 0]),
                      Machine(1, [(0,), (1,)], [1, 0]), Machine(2, [(0, 1)] * 3, [1, 0, 0])):
            self.assertFalse(one == other)
            self.assertTrue(one != other)

    def test_machines_that_take_the_same_need_not_be_equal(self):
        self.assertTrue(Machine(1, [(0,)], [1]) != Machine(1, [(1,), (1,)], [1, 1]))

    def test_other_kinds(self):
        one = Machine(1, [(0,)], [1])
        for other in (None, True, 1, "x", (1, ((0,),), (1,)), [one], (one,), ((0,),)):
            self.assertIs(one == other, False)
            self.assertIs(one != other, True)
            self.assertIs(other == one, False)


class Reading(unittest.TestCase):
    machine = Machine(2, [(1, None), (2, 0), (None, None)], [0, 1, 0])

    def test_ordinary_words(self):
        for word, state, taken in [((), 0, False), ((0,), 1, True), ((1,), None, False),
                                   ((0, 0), 2, False), ((0, 1, 0), 1, True),
                                   ((0, 0, 0), None, False), ((1, 0), None, False)]:
            self.assertEqual(self.machine.state_after(word), state)
            self.assertEqual(self.machine.state_after(word=word), state)
            self.assertIs(self.machine.takes(word), taken)
            self.assertIs(self.machine.takes(word=word), taken)

    def test_wrong_words(self):
        for value in ODD_VALUES + ((2,), (0, 2), (0, 1, False), [], 0, (1, 1, 1, 2)):
            for function in (self.machine.state_after, self.machine.takes):
                with self.assertRaises(InvalidWord) as caught:
                    function(value)
                self.assertIs(caught.exception.value, value)

    def test_all_words_of_many_machines(self):
        for machine in random_machines(1, 40):
            for word in words_up_to(machine.letters, 4):
                self.assertIs(machine.takes(word), takes(machine, word))

    def test_objects_do_not_change(self):
        before = Machine(2, self.machine.table, self.machine.ends)
        self.machine.takes((0, 1))
        self.assertEqual(self.machine, before)
        self.assertEqual(self.machine.takes((0, 1, 0)), self.machine.takes((0, 1, 0)))


if __name__ == "__main__":
    unittest.main()
