"""Point 23: groups that are told by their tables (with points 1, 2 and 4 as far as they speak
of these)."""

import unittest
from itertools import combinations, permutations
from random import Random

from normalwords.errors import InvalidImages, InvalidTable, InvalidWord
from normalwords.groups import Group
from normalwords.machines import Machine
from normalwords.rounds import round_group
from normalwords.tables import product_of, table_group
from made import TABLES, check_group, check_machines, renumbered
from reference import ODD_VALUES, words_up_to
from samples import told

NO = None
ONE = ((0,),)
TWO = ((0, 1), (1, 0))
THREE = ((0, 1, 2), (1, 2, 0), (2, 0, 1))
# Letters of THREE, the element e of which is at the place 2: 0 is 1, 1 is 2 of the numbers.
TURNED = ((1, 2, 0), (2, 0, 1), (0, 1, 2))
# Each row and each column has all numbers, and 0 is e, but (1 times 1) times 2 is 2,
# 1 times (1 times 2) is 4.
LOOSE = ((0, 1, 2, 3, 4), (1, 0, 3, 4, 2), (2, 4, 0, 1, 3), (3, 2, 4, 0, 1), (4, 3, 1, 2, 0))


def one_of(table):
    return [a for a, row in enumerate(table) if row == tuple(range(len(table)))][0]


def undoing(table, a):
    return table[a].index(one_of(table))


def makes_all(table, makers):
    met = [one_of(table)]
    for a in met:
        met.extend({table[a][b] for b in makers} - set(met))
    return len(met) == len(table)


def all_makers(table):
    """All makers of the table, in one sequence each."""
    sets = [makers for n in (1, 2, 3, 4) for makers in combinations(range(len(table)), n)]
    return [makers for makers in sets
            if {undoing(table, a) for a in makers} == set(makers) and makes_all(table, makers)]


def first_forms(table, makers):
    """For each element the first word that makes it, all words being tried in order."""
    forms = {}
    length = 0
    while len(forms) < len(table):
        for word in words_up_to(len(makers), length):
            forms.setdefault(told(one_of(table), lambda a, x: table[a][makers[x]], word), word)
        length += 1
    return forms


def tables_with_e_anywhere(random):
    for name, table in TABLES.items():
        for _ in range(2):
            places = list(range(len(table)))
            random.shuffle(places)
            yield name, renumbered(table, places)


class TableGroups(unittest.TestCase):
    def test_one_element(self):
        made = table_group(ONE, (0,))
        self.assertEqual(made.telling.undo, (0,))
        self.assertEqual(made.telling.words, Machine(1, [(NO,)], [1]))
        self.assertEqual(made.telling.steps, (Machine(3, [(NO, NO, NO)], [1]),))

    def test_two_elements(self):
        made = table_group(table=TWO, makers=(1,))
        self.assertEqual(made.telling.undo, (0,))
        self.assertEqual(made.telling.words, Machine(1, [(1,), (NO,)], [1, 1]))
        # Pair letters: 0 is 0 beside 0, 1 is 0 beside a blank, 2 is a blank beside 0.
        self.assertEqual(made.telling.steps, (Machine(3, [(NO, 1, 1), (NO, NO, NO)], [0, 1]),))

    def test_two_elements_with_e_as_a_maker(self):
        made = table_group(TWO, (0, 1))
        self.assertEqual(made.telling.undo, (0, 1))
        self.assertEqual(made.telling.words, Machine(2, [(NO, 1), (NO, NO)], [1, 1]))
        # 4 is 1 beside 1, 5 is 1 beside a blank, 7 is a blank beside 1.
        kept = Machine(8, [(NO, NO, NO, NO, 1, NO, NO, NO), (NO,) * 8], [1, 1])
        turned = Machine(8, [(NO, NO, NO, NO, NO, 1, NO, 1), (NO,) * 8], [0, 1])
        self.assertEqual(made.telling.steps, (kept, turned))

    def test_three_elements(self):
        # 1 is 0 beside 1, 2 is 0 beside a blank, 3 is 1 beside 0, 5 is 1 beside a blank,
        # 6 and 7 are a blank beside 0 and 1.
        up = Machine(8, [(NO, 1, NO, NO, NO, 1, 1, NO), (NO,) * 8], [0, 1])
        down = Machine(8, [(NO, NO, 1, 1, NO, NO, NO, 1), (NO,) * 8], [0, 1])
        for table, makers, steps in ((THREE, (1, 2), (up, down)), (THREE, (2, 1), (up, down)),
                                     (TURNED, (0, 1), (up, down)), (TURNED, (1, 0), (up, down))):
            made = table_group(table, makers)
            self.assertEqual(made.telling.undo, (1, 0))
            self.assertEqual(made.telling.words, Machine(2, [(1, 1), (NO, NO)], [1, 1]))
            self.assertEqual(made.telling.steps, steps)

    def test_four_elements(self):
        made = table_group(TABLES["4"], (1, 3))
        self.assertEqual(made.telling.words, Machine(2, [(1, 2), (2, NO), (NO, NO)], [1, 1, 1]))
        # () to (0) to (0, 0) to (1) to (), and back.
        up = Machine(8, [(1, 2, NO, NO, NO, 3, 3, NO), (NO,) * 6 + (3, NO), (NO, NO, 3) + (NO,) * 5, (NO,) * 8],
                     [0, 0, 0, 1])
        down = Machine(8, [(1, NO, 2, 3, NO, NO, NO, 2), (NO, NO, 2) + (NO,) * 5, (NO,) * 8, (NO,) * 6 + (2, NO)],
                       [0, 0, 1, 0])
        self.assertEqual(made.telling.steps, (up, down))

    def test_a_letter_of_e(self):
        made = table_group(TURNED, (2, 0, 1))
        self.assertEqual(made.telling.undo, (0, 2, 1))
        self.assertEqual([made.normal(word) for word in ((0,), (0, 1), (1, 1), (2,))], [(), (1,), (2,), (2,)])

    def test_all_tables(self):
        random = Random(131)
        for name, table in tables_with_e_anywhere(random):
            sets = all_makers(table)
            for makers in random.sample(sets, min(3, len(sets))):
                makers = random.choice(list(permutations(makers)))
                with self.subTest(name=name, table=table, makers=makers):
                    made = table_group(table, makers)
                    forms = first_forms(table, makers)
                    undo = tuple(makers.index(undoing(table, a)) for a in makers)
                    check_group(self, made, undo, lambda word: word in forms.values(), one_of(table),
                                lambda a, x: table[a][makers[x]], min(len(table), 4 if len(makers) < 3 else 3), random)
                    self.assertEqual(made.size(), len(table))
                    self.assertTrue(all(made.telling.words.takes(word) for word in forms.values()))
                    is_commutative = all(table[a][b] == table[b][a] for a in makers for b in makers)
                    self.assertIs(made.is_commutative(), is_commutative)

    def test_each_number_of_makers(self):
        many = {len(makers) for name in ("8", "square", "2 2 2") for makers in all_makers(TABLES[name])}
        self.assertEqual(many, {2, 3, 4})
        for name in ("2 2 2", "square", "turns"):
            for makers in all_makers(TABLES[name])[::7]:
                check_machines(self, table_group(TABLES[name], makers))

    def test_round_groups(self):
        for n in range(3, 9):
            self.assertEqual(table_group(TABLES[str(n)], (1, n - 1)), round_group(n))

    def test_equal_calls(self):
        self.assertEqual(table_group(THREE, (1, 2)), table_group(THREE, (1, 2)))
        self.assertNotEqual(table_group(THREE, (0, 1, 2)), table_group(THREE, (1, 2)))
        self.assertIsInstance(table_group(THREE, (1, 2)), Group)


class Products(unittest.TestCase):
    def test_products(self):
        self.assertEqual(product_of(THREE, (1, 2), (0, 0)), 2)
        self.assertEqual(product_of(TURNED, (0, 1), (0, 0)), 1)
        self.assertEqual(product_of(table=TWO, makers=(0, 1), word=(0, 1, 0)), 1)

    def test_the_empty_word(self):
        for table, makers, one in ((ONE, (0,), 0), (THREE, (1, 2), 0), (TURNED, (0, 1), 2)):
            self.assertEqual(product_of(table, makers, ()), one)

    def test_the_first_letter_stands_left(self):
        table = TABLES["swaps"]
        for a, b in permutations(range(6), 2):
            if table[a][b] != table[b][a] and undoing(table, a) == a and undoing(table, b) == b:
                self.assertEqual(product_of(table, (a, b), (0, 1)), table[a][b])
                self.assertEqual(product_of(table, (a, b), (0, 1, 1, 1, 0)), table[table[table[a][b]][b]][table[b][a]])

    def test_long_words(self):
        random = Random(132)
        for _, table in tables_with_e_anywhere(random):
            makers = random.choice(all_makers(table))
            made = table_group(table, makers)
            for _ in range(3):
                word = tuple(random.randrange(len(makers)) for _ in range(40))
                found = product_of(table, makers, word)
                self.assertEqual(found, told(one_of(table), lambda a, x: table[a][makers[x]], word))
                self.assertEqual(product_of(table, makers, made.normal(word)), found)


class Wrong(unittest.TestCase):
    def wrong(self, error, value, call, *args, **more):
        with self.assertRaises(error) as caught:
            call(*args, **more)
        self.assertIs(caught.exception.value, value)

    def both_wrong(self, error, value, table, makers):
        self.wrong(error, value, table_group, table, makers)
        self.wrong(error, value, table_group, table=table, makers=makers)
        self.wrong(error, value, product_of, table, makers, ())
        self.wrong(error, value, product_of, table=table, makers=makers, word="no word")

    def test_no_tables(self):
        nine = tuple(tuple((a + b) % 9 for b in range(9)) for a in range(9))
        for table in [value for value in ODD_VALUES if value != ONE] + [
                (), ((),), [(0,)], ([0],), list(TWO), (list(TWO[0]), TWO[1]), ((0, 1), [1, 0]), TWO[:1], TWO + ((0, 1),),
                ((0, 1), (1,)), ((0, 1), (1, 0, 0)), ((0, 1), (1, 2)), ((0, 1), (1, -1)), ((0, 1), (True, 0)),
                ((0, True), (1, 0)), ((False,),), ((None,),), (("0",),), ((0, 1), (1, None)), ((0, 1), (1, (0,))),
                ((0, 1), 0), nine, ((1,),), 0, 1, (0,), (0, 1), "((0,),)", table_group(ONE, (0,))]:
            self.both_wrong(InvalidTable, table, table, (0,))

    def test_tables_of_no_group(self):
        for table in (
                # No e: each time from the left, from the right, or not at all.
                ((0, 0), (1, 1)), ((0, 1), (0, 1)), ((1, 0), (1, 0)), ((0, 2, 1), (2, 1, 0), (1, 0, 2)),
                ((0, 1, 2), (2, 0, 1), (1, 2, 0)),
                # A number twice in a row or in a column.
                ((0, 1), (1, 1)), ((0, 1, 2), (1, 1, 0), (2, 0, 1)), ((0, 1, 2), (1, 2, 2), (2, 0, 1)),
                ((0, 1, 2), (1, 0, 2), (2, 2, 0)), LOOSE):
            self.both_wrong(InvalidTable, table, table, (1,))

    def test_a_table_of_all_but_one_law(self):
        same = tuple(range(5))
        self.assertEqual(LOOSE[0], same)
        self.assertEqual(tuple(row[0] for row in LOOSE), same)
        self.assertTrue(all(sorted(line) == list(same) for line in LOOSE + tuple(zip(*LOOSE))))
        self.assertNotEqual(LOOSE[LOOSE[1][1]][2], LOOSE[1][LOOSE[1][2]])

    def test_tables_with_one_change(self):
        random = Random(133)
        for _, table in tables_with_e_anywhere(random):
            if len(table) > 1:
                rows = [list(row) for row in table]
                a, b = random.randrange(len(table)), random.randrange(len(table))
                rows[a][b] = (rows[a][b] + random.randrange(1, len(table))) % len(table)
                table = tuple(tuple(row) for row in rows)
                self.both_wrong(InvalidTable, table, table, (0,))

    def test_no_makers(self):
        for makers in ODD_VALUES + (
                (), [1, 2], (1, 2, 1), (1, 1), (1,), (2,), (0,), (0, 1), (3,), (1, 3), (1, 2, 3), (1, -2), (1, True, 2),
                (True, 2), (1, 2, None), (1, (2,)), (1, 2, 0, 1), (1, "2"), THREE, 1, table_group(ONE, (0,))):
            self.both_wrong(InvalidImages, makers, THREE, makers)

    def test_no_makers_at_all(self):
        # One element is a product of no makers, and yet one is needed.
        for table in (ONE, TWO):
            self.both_wrong(InvalidImages, (), table, ())

    def test_makers_of_a_part_only(self):
        for name, makers in (("4", (2,)), ("2 2", (1,)), ("2 2", (0, 3)), ("6", (2, 4)), ("6", (3, 0)), ("8", (2, 4, 6)),
                             ("swaps", (0,)), ("2 2 2", (1, 2, 3)), ("turns", (0,))):
            self.both_wrong(InvalidImages, makers, TABLES[name], makers)

    def test_five_makers(self):
        makers = (1, 2, 3, 4, 0)
        self.both_wrong(InvalidImages, makers, TABLES["5"], makers)
        check_machines(self, table_group(TABLES["5"], makers[:4]))

    def test_one_undone_by_none(self):
        self.both_wrong(InvalidImages, (1, 2, 3), TABLES["5"], (1, 2, 3))
        self.both_wrong(InvalidImages, (1,), TABLES["7"], (1,))

    def test_both_wrong(self):
        self.both_wrong(InvalidTable, LOOSE, LOOSE, [])
        table = [(0,)]
        self.both_wrong(InvalidTable, table, table, ())

    def test_no_words(self):
        for word in ODD_VALUES + ([], [0], (2,), (0, 2), (0, -1), (0, 1.0), "0", 0):
            self.wrong(InvalidWord, word, product_of, THREE, (1, 2), word)
            self.wrong(InvalidWord, word, product_of, table=THREE, makers=(1, 2), word=word)

    def test_what_errors_keep_is_the_argument_itself(self):
        makers = [1, 2]
        with self.assertRaises(InvalidImages) as caught:
            table_group(THREE, makers)
        makers.append(0)
        self.assertEqual(caught.exception.value, [1, 2, 0])


if __name__ == "__main__":
    unittest.main()
