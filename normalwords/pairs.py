"""Pairs of words, read side by side as one word of pair letters."""

from normalwords.errors import InvalidWord, Undefined
from normalwords.languages import both, first_word
from normalwords.machines import Machine
from normalwords.words import is_word

# The states of the machine that watches for stray rows, in its table's order.
GOING = 0
LEFT_ENDED = 1
RIGHT_ENDED = 2
STRAY = 3


def pair_letters(letters):
    """How many pair letters there are over so many letters."""
    return (letters + 1) * (letters + 1) - 1


def pair_letter(letters, x, y):
    """The pair letter of x and y; the number behind the last letter stands for the blank."""
    return x * (letters + 1) + y


def side_by_side(letters, u, v):
    """The word of pair letters as which u and v are read."""
    for word in (u, v):
        if not is_word(word, letters):
            raise InvalidWord(word)
    length = max(len(u), len(v))
    lefts = u + (letters,) * (length - len(u))
    rights = v + (letters,) * (length - len(v))
    return tuple([pair_letter(letters, x, y) for x, y in zip(lefts, rights)])


def read_pair(letters, row):
    """The words (u, v) that are read as the row, or None."""
    if not is_word(row, pair_letters(letters)):
        raise InvalidWord(row)
    u, v = sides(letters, row)
    if side_by_side(letters, u, v) != row:
        return None
    return (u, v)


def sides(letters, row):
    """The left and the right letters of a word of pair letters, blanks left out."""
    parts = [divmod(letter, letters + 1) for letter in row]
    u = tuple([x for x, _ in parts if x < letters])
    v = tuple([y for _, y in parts if y < letters])
    return (u, v)


def stray_row(machine, letters):
    """The first row that the machine takes and that is not two words side by side, or None."""
    _check_letters(machine, letters)
    return first_word(both(machine, _strays(letters)))


def takes_pair(machine, letters, u, v):
    """Whether the machine takes u and v, read side by side."""
    _check_letters(machine, letters)
    return machine.takes(side_by_side(letters, u, v))


def _check_letters(machine, letters):
    """Refuses a machine that does not read the pair letters."""
    if machine.letters != pair_letters(letters):
        raise Undefined("letters")


def _strays(letters):
    """A machine that takes the rows in which a letter stands behind a blank."""
    table = []
    for state in (GOING, LEFT_ENDED, RIGHT_ENDED, STRAY):
        parts = [divmod(letter, letters + 1) for letter in range(pair_letters(letters))]
        table.append(tuple([_watched(state, x == letters, y == letters) for x, y in parts]))
    return Machine(pair_letters(letters), table, [0, 0, 0, 1])


def _watched(state, is_left_blank, is_right_blank):
    """The state after a pair letter with such sides."""
    if state == STRAY:
        return STRAY
    if state == LEFT_ENDED and not is_left_blank:
        return STRAY
    if state == RIGHT_ENDED and not is_right_blank:
        return STRAY
    if is_left_blank:
        return LEFT_ENDED
    return RIGHT_ENDED if is_right_blank else GOING
