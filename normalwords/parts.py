"""Groups as parts of a greater one, which has the letters of both."""

from normalwords.errors import Undefined
from normalwords.languages import least_machine, respelled
from normalwords.pairs import pair_letter, pair_letters

# The most letters that the greater group may have.
MOST_LETTERS = 4


class Part:
    """The least machines of a group, over the letters of the greater one."""

    def __init__(self, group, first, letters):
        telling = group.telling
        # The blank behind the letters stays the blank.
        places = list(range(first, first + telling.letters)) + [letters]
        pairs = [divmod(letter, telling.letters + 1) for letter in range(pair_letters(telling.letters))]
        spelled = [pair_letter(letters, places[x], places[y]) for x, y in pairs]
        self.words = respelled(least_machine(telling.words), letters, places)
        self.steps = [respelled(least_machine(step), pair_letters(letters), spelled) for step in telling.steps]


def parts_of(one, other):
    """Two groups as parts: first the letters of one, then those of other."""
    first = one.telling.letters
    letters = first + other.telling.letters
    if letters > MOST_LETTERS:
        raise Undefined("letters")
    return (Part(one, 0, letters), Part(other, first, letters))


def undo_of(one, other):
    """The undo of the greater group."""
    first = one.telling.letters
    return one.telling.undo + tuple([x + first for x in other.telling.undo])
