"""Groups of finitely many things, with their first words as normal words."""

from normalwords.groups import Group
from normalwords.languages import first_ways, taking
from normalwords.nets import drawn_machine
from normalwords.pairs import pair_letters, side_by_side
from normalwords.tellings import Telling


def finite_group(undo, one, after):
    """The group of the things to which letters lead from one, the thing of the empty word;
    after(thing, x) is the thing times the letter x."""
    letters = len(undo)

    def moves(thing):
        return [(x, after(thing, x)) for x in range(letters)]

    things = drawn_machine(letters, one, moves, lambda thing: True)
    forms = first_ways(things)
    words = taking(letters, list(forms.values()))
    steps = [_step(things, forms, x) for x in range(letters)]
    return Group(Telling(undo, words, steps))


def _step(things, forms, x):
    """The least pair machine that takes the words of each thing and of this times the letter x."""
    letters = things.letters
    rows = [side_by_side(letters, word, forms[things.table[state][x]]) for state, word in forms.items()]
    return taking(pair_letters(letters), rows)
