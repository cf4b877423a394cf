"""Point 18: derivations (with points 1, 2 and 4 as far as they speak of these)."""

import unittest
from random import Random

from normalwords.derivations import derives, made_by, tells_rules
from normalwords.edgewords import edge_words
from normalwords.errors import InvalidRules, InvalidWord
from normalwords.words import freely_reduced, undone
from reference import ODD_VALUES, all_words
from samples import GROUPS, group

UNDO = (1, 0, 3, 2)
COMMUTE = (0, 2, 1, 3)
WRONG_WORDS = ODD_VALUES + ((4,), [], [0], (0, True), (-1,), "00")


def plain_made(undo, rules, derivation):
    told = ()
    for turn, place, sign in derivation:
        rule = rules[place] if sign == 1 else tuple(undo[x] for x in rules[place][::-1])
        told += turn + rule + tuple(undo[x] for x in turn[::-1])
    return freely_reduced(undo, told)


class MadeBy(unittest.TestCase):
    def test_nothing(self):
        self.assertEqual(made_by(UNDO, [COMMUTE], ()), ())
        self.assertEqual(made_by(UNDO, [], ()), ())
        self.assertEqual(made_by(UNDO, (), ()), ())

    def test_both_signs(self):
        self.assertEqual(made_by(UNDO, [COMMUTE], (((), 0, 1),)), COMMUTE)
        self.assertEqual(made_by(UNDO, [COMMUTE], (((), 0, -1),)), (2, 0, 3, 1))
        self.assertEqual(made_by(UNDO, [COMMUTE, (0,)], (((), 1, -1), ((), 1, 1))), ())
        self.assertEqual(made_by(UNDO, [COMMUTE, (0,)], (((), 1, -1), ((), 0, 1))), (2, 1, 3))

    def test_turns(self):
        self.assertEqual(made_by(UNDO, [(0, 0)], (((2,), 0, 1),)), (2, 0, 0, 3))
        self.assertEqual(made_by(UNDO, [(0, 0)], (((2,), 0, 1), ((2,), 0, 1))), (2, 0, 0, 0, 0, 3))
        self.assertEqual(made_by(UNDO, [(0, 0)], (((2,), 0, 1), ((2, 1), 0, -1))), ())
        self.assertEqual(made_by(UNDO, [(0, 0)], (((2, 3, 2), 0, -1),)), (2, 1, 1, 3))
        self.assertEqual(made_by(UNDO, [COMMUTE], (((1,), 0, 1),)), (2, 1, 3, 0))

    def test_letters_that_undo_themselves(self):
        self.assertEqual(made_by((0, 1), [(0, 1, 0)], (((1,), 0, 1),)), (1, 0, 1, 0, 1))
        self.assertEqual(made_by((0, 1), [(0, 1, 1)], (((0,), 0, 1),)), (0,))

    def test_by_name_and_with_a_tuple(self):
        self.assertEqual(made_by(undo=UNDO, rules=(COMMUTE,), derivation=(((), 0, 1),)), COMMUTE)

    def test_many(self):
        random = Random(101)
        for undo in (UNDO, (0, 1), (0, 2, 1), (0,)):
            k = len(undo)
            for _ in range(60):
                rules = [tuple(random.randrange(k) for _ in range(random.randint(0, 6))) for _ in range(4)]
                derivation = tuple((tuple(random.randrange(k) for _ in range(random.randint(0, 6))),
                                    random.randrange(4), random.choice((1, -1))) for _ in range(random.randint(0, 8)))
                right = plain_made(undo, rules, derivation)
                self.assertEqual(made_by(undo, rules, derivation), right)
                self.assertIs(derives(undo, rules, right, derivation), True)
                back = tuple((turn, place, -sign) for turn, place, sign in derivation[::-1])
                self.assertEqual(made_by(undo, rules, back), undone(undo, right))


class Derives(unittest.TestCase):
    RULES = [COMMUTE, (0, 0, 0)]

    def test_the_word_need_not_be_reduced(self):
        for word in (COMMUTE, (0, 2, 1, 3, 0, 1), (3, 2, 0, 2, 1, 3), (0, 2, 1, 0, 1, 3)):
            self.assertIs(derives(UNDO, self.RULES, word, (((), 0, 1),)), True)
        self.assertIs(derives(undo=UNDO, rules=self.RULES, word=(0, 1), value=()), True)

    def test_of_another_word(self):
        for word in ((), (0,), (2, 0, 3, 1), (0, 2, 1), (2, 1, 3, 0)):
            self.assertIs(derives(UNDO, self.RULES, word, (((), 0, 1),)), False)
        self.assertIs(derives(UNDO, self.RULES, (0,), ()), False)
        self.assertIs(derives(UNDO, self.RULES, COMMUTE, ()), False)

    def test_values_that_are_no_derivation(self):
        right = ((), 0, 1)
        self.assertIs(derives(UNDO, self.RULES, COMMUTE, (right,)), True)
        wrong = [[right], right, ([(), 0, 1],), ([], 0, 1), (((), 0, 1, 1),), (((), 0),), ((),), (((), 0, True),),
                 (((), False, 1),), (((), 2, 1),), (((), -2, 1),), (((), 0, 0),), (((), 0, 2),), (((), 0, "1"),),
                 (((), "0", 1),), (([], 0, 1),), (((4,), 0, 1),), (((True,), 0, 1),), ((None, 0, 1),), (("", 0, 1),),
                 ((0, 0, 1),), (((), None, 1),), (((), 0, None),), (((), 0, (1,)),), (right, None), (right, [right]),
                 (right, ()), ((((),), 0, 1),), (((), 10 ** 20, 1),)]
        for value in wrong:
            self.assertIs(derives(UNDO, self.RULES, COMMUTE, value), False, value)
            self.assertIs(derives(UNDO, self.RULES, (), value), False, value)

    def test_signs_are_1_and_less_1_alone(self):
        back = undone(UNDO, COMMUTE)
        self.assertIs(derives(UNDO, self.RULES, back, (((), 0, -1),)), True)
        for sign in (0, 2, -2, 10 ** 20, True, False, None, "-1"):
            self.assertIs(derives(UNDO, self.RULES, back, (((), 0, sign),)), False)

    def test_other_values(self):
        nested = ()
        for _ in range(9):
            nested = (nested, [nested])
        for value in ODD_VALUES + (nested, [nested], group("plane"), group("plane").telling, all_words(4), "derivation",
                                   (group("plane"),), ((group("plane"), 0, 1),), (((), group("plane"), 1),),
                                   (((), 0, group("plane")),)):
            self.assertIs(derives(UNDO, self.RULES, COMMUTE, value), False)

    def test_no_rules(self):
        self.assertIs(derives(UNDO, [], (0, 1), ()), True)
        self.assertIs(derives(UNDO, [], (), (((), 0, 1),)), False)
        self.assertIs(derives(UNDO, [()], (0, 1), (((2,), 0, 1),)), True)


class TellsRules(unittest.TestCase):
    PLANE = [(((), 0, 1),)]

    def test_the_edge_words_themselves(self):
        for name in GROUPS:
            words = edge_words(group(name).telling)
            each = [(((), place, 1),) for place in range(len(words))]
            self.assertIs(tells_rules(group(name), list(words), each), True)
            self.assertIs(tells_rules(group(name), words, tuple(each)), True)
            if len(words) > 1:
                self.assertIs(tells_rules(group(name), words, each[::-1]), False)

    def test_other_rules(self):
        plane = group("plane")
        self.assertIs(tells_rules(group=plane, rules=[COMMUTE], derivations=self.PLANE), True)
        self.assertIs(tells_rules(plane, [(2, 0, 3, 1)], [(((), 0, -1),)]), True)
        self.assertIs(tells_rules(plane, [(2, 0, 3, 1)], self.PLANE), False)
        # The rule turned: 1 (0 2 1 3) 0.
        self.assertIs(tells_rules(plane, [(2, 1, 3, 0)], [(((0,), 0, 1),)]), True)
        self.assertIs(tells_rules(plane, [(0, 1), (), COMMUTE], [(((), 2, 1),)]), True)
        self.assertIs(tells_rules(plane, [()], [(((), 0, 1),)]), False)

    def test_a_rule_that_is_not_nothing(self):
        plane = group("plane")
        self.assertIs(tells_rules(plane, [COMMUTE, (0, 0)], self.PLANE), False)
        self.assertIs(tells_rules(plane, [COMMUTE, (0, 2, 1)], self.PLANE), False)
        self.assertIs(tells_rules(group("free"), [COMMUTE], []), False)

    def test_too_few_and_too_many(self):
        plane = group("plane")
        for derivations in ([], self.PLANE * 2, (), self.PLANE + [()]):
            self.assertIs(tells_rules(plane, [COMMUTE], derivations), False)
        self.assertIs(tells_rules(group("free"), [], []), True)
        self.assertIs(tells_rules(group("free"), [(0, 1)], ()), True)
        self.assertIs(tells_rules(group("free"), [], [()]), False)

    def test_members_of_any_kind(self):
        for value in ODD_VALUES + ([((), 0, 1)], (((), 0, True),), (((), False, 1),), group("plane"), ((),)):
            self.assertIs(tells_rules(group("plane"), [COMMUTE], [value]), False)

    def test_several(self):
        # Three, the letter 0 being nothing; 1 and 2 undo one another.
        three = group("three, with nothing")
        self.assertEqual(edge_words(three.telling), ((0,), (1, 1, 1)))
        rules = [(1, 0, 1, 1), (0,)]
        right = [(((), 1, 1),), (((), 0, 1), ((2, 2), 1, -1))]
        self.assertIs(tells_rules(three, rules, right), True)
        self.assertIs(tells_rules(three, rules, right[::-1]), False)
        self.assertIs(tells_rules(three, rules[::-1], right), False)
        self.assertIs(tells_rules(three, rules, [right[0], (((), 0, 1),)]), False)


class Wrong(unittest.TestCase):
    def calls(self, rules):
        return [lambda: made_by(UNDO, rules, ()), lambda: derives(UNDO, rules, (), ()),
                lambda: derives(UNDO, rules, None, None), lambda: tells_rules(group("plane"), rules, []),
                lambda: tells_rules(group("plane"), rules, TellsRules.PLANE)]

    def refused(self, rules, place):
        for call in self.calls(rules):
            with self.assertRaises(InvalidRules) as caught:
                call()
            self.assertEqual(caught.exception.place, place)

    def test_no_sequence(self):
        for rules in (None, True, 0, "", "01", all_words(4), group("plane")):
            self.refused(rules, 0)

    def test_the_first_that_is_no_word(self):
        for value in WRONG_WORDS:
            for rules, place in (([value], 0), ([COMMUTE, value], 1), ([COMMUTE, (), value, value], 2),
                                 ((value, COMMUTE), 0), (((0,), value), 1)):
                self.refused(rules, place)

    def test_no_word(self):
        for value in WRONG_WORDS:
            for derivation in ((), None, (((), 0, 1),)):
                with self.assertRaises(InvalidWord) as caught:
                    derives(UNDO, [COMMUTE], value, derivation)
                self.assertIs(caught.exception.value, value)


class Limits(unittest.TestCase):
    def test_many_long_rules(self):
        random = Random(102)
        plane = group("plane")
        rules = []
        while len(rules) < 59:
            half = tuple(random.randrange(4) for _ in range(20))
            turned = list(half)
            random.shuffle(turned)
            rules.append(half + undone(UNDO, tuple(turned)))
        rules.append(COMMUTE)
        self.assertIs(tells_rules(plane, rules, [(((), 59, 1),)]), True)
        self.assertIs(tells_rules(plane, rules, [(((), 58, 1),)]), False)

    def test_arguments_stay_and_results_are_equal(self):
        rules, derivations = [COMMUTE], [(((), 0, 1),)]
        self.assertIs(tells_rules(group("plane"), rules, derivations), True)
        self.assertIs(tells_rules(group("plane"), tuple(rules), tuple(derivations)), True)
        value = [((), 0, 1)]
        derives(UNDO, rules, COMMUTE, value)
        self.assertEqual((rules, derivations, value), ([COMMUTE], [(((), 0, 1),)], [((), 0, 1)]))


if __name__ == "__main__":
    unittest.main()
