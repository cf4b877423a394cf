"""Exchanges of words for words that stand ahead of them, and the last forms these lead to."""

from normalwords.basics import is_sequence
from normalwords.errors import InvalidRules, InvalidWord
from normalwords.words import is_ahead, is_word


def last_form(undo, exchanges, word):
    """Some word that the word can be exchanged to and that can't be exchanged."""
    pairs = checked_exchanges(undo, exchanges)
    if not is_word(word, len(undo)):
        raise InvalidWord(word)
    return last_exchanged(pairs, word)


def two_forms(undo, exchanges):
    """Some (word, one, other), one and other being unlike last forms of the word, or None if
    each word has just one last form."""
    pairs = checked_exchanges(undo, exchanges)
    for first in pairs:
        for second in pairs:
            for word, one, other in _overlaps(first, second) + _insides(first, second):
                forms = (last_exchanged(pairs, one), last_exchanged(pairs, other))
                if forms[0] != forms[1]:
                    return (word, forms[0], forms[1])
    return None


def checked_exchanges(undo, exchanges):
    """The exchanges, and those that the undo tells behind them; refuses what are none."""
    if not is_sequence(exchanges):
        raise InvalidRules(0)
    for place, value in enumerate(exchanges):
        if not _is_exchange(undo, value):
            raise InvalidRules(place)
    return list(exchanges) + [((x, undo[x]), ()) for x in range(len(undo))]


def last_exchanged(pairs, word):
    """A last form of a word; pairs are all exchanges, those of the undo too."""
    told = []
    waiting = list(reversed(word))
    # No left side stands in what is told, so a new one ends with the letter that comes next.
    while len(waiting) > 0:
        told.append(waiting.pop())
        for left, right in pairs:
            if tuple(told[-len(left):]) == left:
                del told[-len(left):]
                waiting.extend(right[::-1])
                break
    return tuple(told)


def _is_exchange(undo, value):
    """Whether any value is a pair of words, the right one ahead of the left one."""
    if not isinstance(value, tuple) or len(value) != 2:
        return False
    if not all([is_word(side, len(undo)) for side in value]):
        return False
    return is_ahead(value[1], value[0])


def _overlaps(first, second):
    """For each number of last letters of the left side of first, fewer than both left sides
    have, that are the first letters of that of second: the word of both, written once, and
    what each exchange makes of it."""
    told = []
    for n in range(1, min(len(first[0]), len(second[0]))):
        if first[0][-n:] == second[0][:n]:
            word = first[0] + second[0][n:]
            told.append((word, first[1] + second[0][n:], first[0][:-n] + second[1]))
    return told


def _insides(first, second):
    """For each place in the left side of first at which that of second stands: the former, and
    what each exchange makes of it."""
    told = []
    left, right = second
    for n in range(len(first[0]) - len(left) + 1):
        end = n + len(left)
        if first[0][n:end] == left:
            told.append((first[0], first[1], first[0][:n] + right + first[0][end:]))
    return told
