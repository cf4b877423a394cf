"""Groups freely joined: nothing holds between the elements of the one and of the other."""

from normalwords.groups import Group
from normalwords.languages import after_letter, least_machine, listed
from normalwords.nets import drawn_machine
from normalwords.pairs import pair_letter
from normalwords.parts import parts_of, undo_of
from normalwords.tellings import Telling


def joined(one, other):
    """The group freely joined of both; normal words are those of one and of other by turns."""
    first, second = parts_of(one, other)
    steps = [_step(first.words, second.words, step) for step in first.steps]
    steps.extend([_step(second.words, first.words, step) for step in second.steps])
    return Group(Telling(undo_of(one, other), _words(first.words, second.words), steps))


def _words(one, other):
    """The least machine that takes words of one and of other by turns."""
    # The states in the words of one and of other: a word of the one ends where a letter of the
    # other one follows, and what comes next of the one is read from its start.
    def moves(node):
        told = [(x, (after, 0)) for x, after in listed(one.table[node[0]])]
        return told + [(x, (0, after)) for x, after in listed(other.table[node[1]])]

    # All states of a least machine of normal words are ends.
    return least_machine(drawn_machine(one.letters, (0, 0), moves, lambda node: True))


def _step(own, others, step):
    """The least pair machine of a letter whose step is told over its own group's words."""
    letters = own.letters

    # Whether a word of the letter's own group is the last one shows behind it. So beside the
    # step's state it is told where in the own words both sides are, None where they have parted,
    # and where in the words of the other group.
    def moves(node):
        s, t, p = node
        told = []
        for letter in range(step.letters):
            x, y = divmod(letter, letters + 1)
            after = (after_letter(own, s, x) if x == y else None, 0, after_letter(step, p, letter))
            if after != (None, 0, None):
                told.append((letter, after))
        if s is not None:
            told.extend([(pair_letter(letters, x, x), (0, after, 0)) for x, after in listed(others.table[t])])
        return told

    def is_end(node):
        return node[2] is not None and step.ends[node[2]] == 1

    return least_machine(drawn_machine(step.letters, (0, 0, 0), moves, is_end))
