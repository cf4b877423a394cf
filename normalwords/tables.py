"""Groups that are told by their tables."""

from normalwords.errors import InvalidImages, InvalidTable, InvalidWord
from normalwords.finite import finite_group
from normalwords.words import is_word

# The most elements that a table may have, and the most makers.
MOST_ELEMENTS = 8
MOST_MAKERS = 4


def table_group(table, makers):
    """The group of the table, with a letter for each maker and the first words of its elements
    as normal words."""
    one = _checked_one(table, makers)
    undo = tuple([makers.index(_undoing(table, one, a)) for a in makers])
    return finite_group(undo, one, lambda a, x: table[a][makers[x]])


def product_of(table, makers, word):
    """The element that the word makes."""
    here = _checked_one(table, makers)
    if not is_word(word, len(makers)):
        raise InvalidWord(word)
    for x in word:
        here = table[here][makers[x]]
    return here


def _checked_one(table, makers):
    """The element of the empty word; refuses what is no table of a group, and what does not
    make it."""
    if not _is_table(table):
        raise InvalidTable(table)
    one = _one_of(table)
    if one is None or not _are_permuted(table) or not _is_associative(table):
        raise InvalidTable(table)
    if not _are_makers(table, one, makers):
        raise InvalidImages(makers)
    return one


def _is_table(value):
    """Whether any value is a table of 1 to 8 elements, be it of a group or not."""
    if not isinstance(value, tuple) or not 1 <= len(value) <= MOST_ELEMENTS:
        return False
    return all([is_word(row, len(value)) and len(row) == len(value) for row in value])


def _one_of(table):
    """The element that changes no element, or None."""
    same = tuple(range(len(table)))
    for a, row in enumerate(table):
        if row == same and _column(table, a) == same:
            return a
    return None


def _column(table, b):
    """The products of all elements with b behind."""
    return tuple([row[b] for row in table])


def _are_permuted(table):
    """Whether each row and each column has all elements."""
    lines = list(table) + [_column(table, b) for b in range(len(table))]
    return all([sorted(line) == list(range(len(table))) for line in lines])


def _is_associative(table):
    """Whether (a times b) times c is a times (b times c) for all elements."""
    every = range(len(table))
    return all([table[table[a][b]][c] == table[a][table[b][c]] for a in every for b in every for c in every])


def _are_makers(table, one, value):
    """Whether any value is 1 to 4 unlike elements, with those that undo them, that make all."""
    if not is_word(value, len(table)) or not 1 <= len(value) <= MOST_MAKERS:
        return False
    if len(set(value)) < len(value):
        return False
    return all([_undoing(table, one, a) in value for a in value]) and _are_all_made(table, one, value)


def _undoing(table, one, a):
    """The element that undoes a."""
    return table[a].index(one)


def _are_all_made(table, one, makers):
    """Whether every element is a product of makers."""
    made = [one]
    at = 0
    while at < len(made):
        for a in makers:
            if table[made[at]][a] not in made:
                made.append(table[made[at]][a])
        at += 1
    return len(made) == len(table)
