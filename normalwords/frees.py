"""Groups in which nothing holds but that letters undo one another."""

from normalwords.basics import is_whole
from normalwords.errors import InvalidNumber
from normalwords.groups import Group
from normalwords.languages import least_machine
from normalwords.nets import drawn_machine
from normalwords.pairs import pair_letter, pair_letters
from normalwords.tellings import Telling

# What stands for the last letter of a word that has none, and of one of which all is read.
NONE = -1
DONE = -2


def free_group(n):
    """The free group of n elements: letters 2 i and 2 i + 1 undo one another."""
    if not is_whole(n) or not 1 <= n <= 2:
        raise InvalidNumber(n)
    return loose_group((1, 0, 3, 2)[:2 * n])


def loose_group(undo):
    """The group in which nothing holds but what the undo tells; normal words are those with no
    letter beside its undo."""
    def moves(last):
        return [(x, x) for x in _letters_behind(undo, last)]

    words = drawn_machine(len(undo), NONE, moves, lambda last: True)
    return Group(Telling(undo, least_machine(words), [_step(undo, x) for x in range(len(undo))]))


def _letters_behind(undo, last):
    """The letters that may stand behind a last letter."""
    return [x for x in range(len(undo)) if last == NONE or undo[last] != x]


def _step(undo, x):
    """The least pair machine that takes (u, v) if u with the letter x behind, reduced, is v."""
    letters = len(undo)

    def moves(last):
        if last == DONE:
            return []
        follows = _letters_behind(undo, last)
        told = [(pair_letter(letters, y, y), y) for y in follows]
        if x in follows:
            told.append((pair_letter(letters, letters, x), DONE))
        if undo[x] in follows:
            told.append((pair_letter(letters, undo[x], letters), DONE))
        return told

    return least_machine(drawn_machine(pair_letters(letters), NONE, moves, lambda last: last == DONE))
