"""Whether normal words are the shortest ones, and the first ones."""

from normalwords.errors import Undefined
from normalwords.languages import both, first_word
from normalwords.machines import Machine
from normalwords.pairs import pair_letters, sides

# The states of the machine that watches whether the left word, with a letter behind, is ahead
# of the right one: so far both are the same, it is ahead, it is ahead and all is read.
SAME = 0
AHEAD = 1
DONE = 2


def longer_step(group):
    """Some (x, u, v) such that the letter x leads u to v, and v has two letters more or still
    more; or None."""
    letters = group.telling.letters
    return _found_step(group.telling, [_longer_pairs(letters)] * letters)


def are_shortest(group):
    """Whether each normal word has as few letters as any word equal to it."""
    return longer_step(group) is None


def greater_step(group):
    """Some (x, u, v) such that the letter x leads u to v, v has one letter more, and u with x
    behind is ahead of it; or None."""
    if not are_shortest(group):
        raise Undefined("shortest")
    letters = group.telling.letters
    return _found_step(group.telling, [_greater_pairs(letters, x) for x in range(letters)])


def are_least(group):
    """Whether each normal word is the first of all words equal to it."""
    return are_shortest(group) and greater_step(group) is None


def _found_step(telling, wanted):
    """Some (x, u, v) such that steps[x] and wanted[x] take the pair of u and v; or None."""
    for x, step in enumerate(telling.steps):
        row = first_word(both(step, wanted[x]))
        if row is not None:
            u, v = sides(telling.letters, row)
            return (x, u, v)
    return None


def _longer_pairs(letters):
    """A machine that takes the pairs whose right word has two letters more, or still more."""
    # The states count the letters behind the end of the left word, up to two.
    def after(state, a, b):
        if a == letters:
            return min(state + 1, 2)
        return 0 if state == 0 else None

    return _pair_machine(letters, after, (0, 0, 1))


def _greater_pairs(letters, x):
    """A machine that takes the pairs whose right word has one letter more and stands behind
    the left one with the letter x behind."""
    def after(state, a, b):
        if state == DONE or b == letters:
            return None
        left = x if a == letters else a
        if state == SAME and left > b:
            return None
        is_ahead_now = state == AHEAD or left < b
        if a == letters:
            return DONE if is_ahead_now else None
        return AHEAD if is_ahead_now else SAME

    return _pair_machine(letters, after, (0, 0, 1))


def _pair_machine(letters, after, ends):
    """The machine over pair letters with three states that after(state, a, b) tells."""
    parts = [divmod(letter, letters + 1) for letter in range(pair_letters(letters))]
    table = [tuple([after(state, a, b) for a, b in parts]) for state in range(len(ends))]
    return Machine(pair_letters(letters), table, ends)
