"""What tests of the groups that the package makes share: plain checks of a whole telling, and
tables of groups."""

from itertools import product

from normalwords.groups import Group
from normalwords.judging import tells_group, witness
from normalwords.languages import least_machine
from reference import beside, takes, words_up_to
from samples import told


def check_machines(test, made):
    """That this is a group, told by least machines."""
    test.assertIsInstance(made, Group)
    telling = made.telling
    test.assertIsNone(witness(telling))
    test.assertIs(tells_group(telling), True)
    for machine in (telling.words,) + telling.steps:
        test.assertEqual(machine, least_machine(machine))
    test.assertEqual(Group(telling), made)


def check_group(test, made, undo, is_normal, one, after, length, random):
    """That the group is the one of the elements to which letters lead from one, those words
    being normal that are told; as far as pairs of words of so many letters tell, and long words
    at random."""
    check_machines(test, made)
    telling = made.telling
    test.assertEqual(telling.undo, undo)
    words = words_up_to(len(undo), length)
    for word in words:
        test.assertIs(telling.words.takes(word), is_normal(word), word)
    normal = [(word, told(one, after, word)) for word in words if is_normal(word)]
    for x, step in enumerate(telling.steps):
        for u, element in normal:
            aim = after(element, x)
            for v, other in normal:
                test.assertEqual(takes(step, beside(len(undo), u, v)), aim == other, (x, u, v))
    for _ in range(10):
        word = tuple(random.randrange(len(undo)) for _ in range(40))
        found = made.normal(word)
        test.assertTrue(is_normal(found))
        test.assertEqual(told(one, after, found), told(one, after, word))


def table_of(things, times):
    """The table of a group, its elements numbered as they are listed."""
    return tuple(tuple(things.index(times(a, b)) for b in things) for a in things)


def behind(a, b):
    """Two permutations, one behind the other."""
    return tuple(b[place] for place in a)


def permutations_made(makers):
    """All permutations made by these."""
    met = [tuple(range(len(makers[0])))]
    for a in met:
        met.extend([behind(a, b) for b in makers if behind(a, b) not in met])
    return met


def added(sizes):
    """The table of the tuples of numbers below sizes, added number by number."""
    things = list(product(*[range(n) for n in sizes]))
    return table_of(things, lambda a, b: tuple((x + y) % n for x, y, n in zip(a, b, sizes)))


def permuted(makers):
    return table_of(permutations_made(makers), behind)


# The tables of all groups of at most 8 elements, e at the place 0.
TABLES = {
    "1": added((1,)), "2": added((2,)), "3": added((3,)), "4": added((4,)), "2 2": added((2, 2)),
    "5": added((5,)), "6": added((6,)), "swaps": permuted([(1, 0, 2), (0, 2, 1)]), "7": added((7,)),
    "8": added((8,)), "4 2": added((4, 2)), "2 2 2": added((2, 2, 2)),
    "square": permuted([(1, 2, 3, 0), (2, 1, 0, 3)]),
    # Two elements of order 4, each of which turns the other around.
    "turns": permuted([(1, 2, 3, 0, 7, 4, 5, 6), (4, 5, 6, 7, 2, 3, 0, 1)]),
}


def renumbered(table, places):
    """The table with places[a] in the place of the element a."""
    found = [[None] * len(table) for _ in table]
    for a, row in enumerate(table):
        for b, c in enumerate(row):
            found[places[a]][places[b]] = places[c]
    return tuple(tuple(row) for row in found)
