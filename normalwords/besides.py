"""Groups beside one another: pairs of elements."""

from normalwords.groups import Group
from normalwords.languages import least_machine, listed
from normalwords.nets import drawn_machine
from normalwords.pairs import pair_letter
from normalwords.parts import parts_of, undo_of
from normalwords.tellings import Telling

# What is read where a letter of one has been written behind the left word: both sides still a
# word of one, the same letter of other, the left side one letter of other late, the right side
# so, nothing any more.
PAIR = 0
EVEN = 1
LEFT_LATE = 2
RIGHT_LATE = 3
DONE = 4


def beside(one, other):
    """The group of pairs of elements of both; normal words are one of one, then one of other."""
    first, second = parts_of(one, other)
    steps = [_step_of_first(step, second.words) for step in first.steps]
    steps.extend([_step_of_second(first.words, step) for step in second.steps])
    return Group(Telling(undo_of(one, other), _words(first.words, second.words), steps))


def _words(one, other):
    """The least machine that takes a word of one with a word of other behind."""
    def moves(node):
        s, t = node
        told = [(y, (None, after)) for y, after in listed(other.table[t])]
        if s is not None:
            told.extend([(x, (after, 0)) for x, after in listed(one.table[s])])
        return told

    # All states of a least machine of normal words are ends.
    return least_machine(drawn_machine(one.letters, (0, 0), moves, lambda node: True))


def _step_of_second(words, step):
    """The least pair machine that takes the pairs of a step with the same word ahead of both."""
    letters = words.letters

    def moves(node):
        s, p = node
        told = [(letter, (None, after)) for letter, after in listed(step.table[p])]
        if s is not None:
            told.extend([(pair_letter(letters, x, x), (after, 0)) for x, after in listed(words.table[s])])
        return told

    return least_machine(drawn_machine(step.letters, (0, 0), moves, lambda node: step.ends[node[1]] == 1))


def _step_of_first(step, words):
    """The least pair machine that takes the pairs of a step with the same word behind both."""
    def moves(node):
        phase, state, late = node
        if phase == PAIR:
            return _moves_of_pair(step, words, state)
        if phase == EVEN:
            return _moves_of_even(words, state)
        return [] if phase == DONE else _moves_of_late(words, state, phase, late)

    def is_end(node):
        phase, state, _ = node
        return phase in (EVEN, DONE) or (phase == PAIR and step.ends[state] == 1)

    return least_machine(drawn_machine(step.letters, (PAIR, 0, None), moves, is_end))


def _moves_of_pair(step, words, state):
    """The moves from a state of the step."""
    letters = words.letters
    told = []
    for letter, after in listed(step.table[state]):
        x, y = divmod(letter, letters + 1)
        # The words of a pair differ by at most one letter in their lengths, so a blank stands
        # beside the last letter of the longer one.
        if x == letters:
            told.extend(_moves_of_late(words, 0, RIGHT_LATE, y))
        elif y == letters:
            told.extend(_moves_of_late(words, 0, LEFT_LATE, x))
        else:
            told.append((letter, (PAIR, after, None)))
    if step.ends[state] == 1:
        told.extend(_moves_of_even(words, 0))
    return told


def _moves_of_even(words, state):
    """The moves where both sides read the same letters."""
    return [(pair_letter(words.letters, x, x), (EVEN, after, None)) for x, after in listed(words.table[state])]


def _moves_of_late(words, state, phase, late):
    """The moves where one side still has to read the letter late, and the other one is ahead."""
    letters = words.letters
    nexts = [(x, (phase, after, x)) for x, after in listed(words.table[state])] + [(letters, (DONE, 0, None))]
    if phase == LEFT_LATE:
        return [(pair_letter(letters, late, x), node) for x, node in nexts]
    return [(pair_letter(letters, x, late), node) for x, node in nexts]
