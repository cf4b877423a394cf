"""Plain ways to exchange words, and exchanges that tests share."""

from functools import lru_cache

from reference import words_up_to


def with_undo(undo, exchanges):
    return tuple(exchanges) + tuple(((x, y), ()) for x, y in enumerate(undo))


@lru_cache(maxsize=200000)
def exchanged(pairs, word):
    """All words to which a word can be exchanged in one step; pairs has those of the undo, too."""
    told = set()
    for left, right in pairs:
        for n in range(len(word) - len(left) + 1):
            if word[n:n + len(left)] == left:
                told.add(word[:n] + right + word[n + len(left):])
    return frozenset(told)


def last_forms(undo, exchanges, word):
    """All last forms of a word."""
    pairs = with_undo(undo, exchanges)
    met = {word}
    waiting = [word]
    for here in waiting:
        new = exchanged(pairs, here) - met
        met |= new
        waiting.extend(new)
    return {here for here in met if not exchanged(pairs, here)}


def reduced(undo, exchanges, word):
    """Some last form: the first exchange that can be made is made, again and again."""
    pairs = with_undo(undo, exchanges)
    while exchanged(pairs, word):
        word = min(exchanged(pairs, word))
    return word


def is_last(undo, exchanges, word):
    return not exchanged(with_undo(undo, exchanges), word)


def greatest_difference(undo, exchanges, length):
    """The most letters that a difference has along u and v, where u is a last form of at most so
    many letters and v that of u with one letter behind."""
    most = 0
    for u in words_up_to(len(undo), length):
        if is_last(undo, exchanges, u):
            for x in range(len(undo)):
                v = reduced(undo, exchanges, u + (x,))
                for n in range(max(len(u), len(v)) + 1):
                    back = tuple(undo[y] for y in reversed(u[:n]))
                    most = max(most, len(reduced(undo, exchanges, back + v[:n])))
    return most


# Complete exchanges: an undo, the exchanges, the radius that is enough, how many elements.
COMPLETE = {
    "nothing": ((0,), [((0,), ())], 0, 1),
    "two mirrors that are nothing": ((0, 1), [((0,), ()), ((1,), ())], 0, 1),
    "one mirror": ((0,), [], 1, 2),
    "one letter for both": ((1, 0), [((1,), (0,)), ((0, 0), ())], 1, 2),
    "round of three": ((1, 0), [((0, 0), (1,)), ((1, 1), (0,))], 1, 3),
    "round of five": ((1, 0), [((0, 0, 0), (1, 1)), ((1, 1, 1), (0, 0))], 2, 5),
    "round of eight": ((1, 0), [((1, 1, 1, 1), (0,) * 4), ((0,) * 5, (1, 1, 1))], 4, 8),
    "swaps": ((0, 1), [((1, 0, 1), (0, 1, 0))], 2, 6),
    "four points": ((0, 1, 2), [((2, 0), (0, 2)), ((1, 0, 1), (0, 1, 0)), ((2, 1, 2), (1, 2, 1)),
                                ((2, 1, 0, 2), (1, 2, 1, 0))], 2, 24),
    "whole numbers": ((1, 0), [], 1, None),
    "mirrors": ((0, 1), [], 1, None),
    "free": ((1, 0, 3, 2), [], 1, None),
    "four mirrors": ((0, 1, 2, 3), [], 1, None),
    "plane": ((1, 0, 3, 2), [((2, 0), (0, 2)), ((2, 1), (1, 2)), ((3, 0), (0, 3)), ((3, 1), (1, 3))], 2, None),
    "bottle": ((1, 0, 3, 2), [((2, 0), (1, 2)), ((2, 1), (0, 2)), ((3, 0), (1, 3)), ((3, 1), (0, 3))], 2, None),
    "modular": ((0, 2, 1), [((1, 1), (2,)), ((2, 2), (1,))], 1, None),
    "squares": ((0, 1, 2), [((1, 0), (0, 1)), ((2, 0, 2, 0), (0, 2, 0, 2)), ((2, 1, 2, 1), (1, 2, 1, 2)),
                            ((2, 1, 2, 0, 1), (1, 2, 1, 2, 0))], 4, None),
    "five mirrors in a ring but one": ((0, 1, 2, 3), [((1, 0), (0, 1)), ((2, 1), (1, 2)), ((3, 2), (2, 3)),
                                                      ((2, 0, 1), (1, 2, 0)), ((3, 1, 2), (2, 3, 1))], 2, None),
}

# Exchanges that are not complete, with a word that tells it.
LOOSE = {
    "two exchanges meet": ((0, 1, 2), [((1, 0), (0, 1)), ((2, 1), (1, 2))], (2, 1, 0)),
    "one exchange meets itself": ((0, 1, 2), [((2, 1, 2), (0, 1))], (2, 1, 2, 1, 2)),
    "one exchange meets what undoes": ((1, 0), [((0, 0), ())], (0, 0, 1)),
    "one left side within another": ((1, 0, 3, 2), [((2, 0, 2, 0), (0, 2)), ((0, 2), ())], (2, 0, 2, 0)),
    "equal left sides": ((0, 1), [((1, 0, 1), (0,)), ((1, 0, 1), (0, 1, 0))], (1, 0, 1)),
    "what undoes within a left side": ((1, 0), [((0, 0, 1), ())], (0, 0, 1)),
    "one letter within a left side": ((0, 1), [((1, 0, 1), ()), ((1,), ())], (1, 0, 1)),
    "a left side at the end of another": ((0, 1, 2), [((2, 1, 0), (0,)), ((1, 0), (0, 1))], (2, 1, 0)),
}
