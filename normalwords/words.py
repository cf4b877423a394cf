"""Words over letters, and the letters that undo one another."""

from normalwords.basics import is_number
from normalwords.errors import InvalidWord

LARGEST_UNDO = 6


def is_word(value, letters):
    """Whether any value is a word over so many letters."""
    return isinstance(value, tuple) and all([is_number(x) and x < letters for x in value])


def is_undo(value):
    """Whether any value is an undo of 1 to 6 letters."""
    if not isinstance(value, tuple) or not 1 <= len(value) <= LARGEST_UNDO:
        return False
    return is_word(value, len(value)) and all([value[value[x]] == x for x in range(len(value))])


def undone(undo, word):
    """The word that undoes the word."""
    if not is_word(word, len(undo)):
        raise InvalidWord(word)
    return tuple([undo[x] for x in reversed(word)])


def freely_reduced(undo, word):
    """What is left of the word when no letter stands beside its undo."""
    if not is_word(word, len(undo)):
        raise InvalidWord(word)
    left = []
    for x in word:
        if len(left) > 0 and undo[left[-1]] == x:
            left.pop()
        else:
            left.append(x)
    return tuple(left)


def is_ahead(one, other):
    """Whether one stands ahead of other: it is shorter, or as long and less."""
    return (len(one), one) < (len(other), other)


def in_order(words):
    """The words, rising, each once."""
    return tuple([word for _, word in sorted({(len(word), word) for word in words})])
