"""Machines that take the normal words of subgroups."""

from normalwords.basics import is_sequence, is_whole
from normalwords.errors import InvalidNumber, InvalidWord, Undefined
from normalwords.languages import (
    after_letter, bit_of, both, first_ways, first_without, first_word, least_machine, taking)
from normalwords.leads import Leads
from normalwords.nets import drawn_machine
from normalwords.pairs import sides
from normalwords.words import in_order, is_word, undone

# The most elements of a subgroup, or sets of an index, that are asked for.
MOST = 60


def loop_words(group, machine):
    """The loop words of the machine that are not empty, in order."""
    _check_letters(group, machine)
    least = least_machine(machine)
    ways = first_ways(least)
    told = []
    for state, way in ways.items():
        if least.ends[state] == 1:
            told.append(group.normal(way))
        for x, target in enumerate(least.table[state]):
            if target is not None:
                told.append(group.times(way + (x,), undone(group.telling.undo, ways[target])))
    return tuple([word for word in in_order(told) if len(word) > 0])


def subgroup_fault(group, machine):
    """Something by which the machine does not take the normal words of a subgroup, or None."""
    _check_letters(group, machine)
    if not machine.takes(()):
        return ("empty",)
    stray = first_without(machine, group.telling.words)
    if stray is not None:
        return ("stray", stray)
    return _left_fault(group, machine)


def is_fault(group, machine, value):
    """Whether any value tells why the machine does not take the normal words of a subgroup."""
    _check_letters(group, machine)
    if not isinstance(value, tuple) or len(value) == 0:
        return False
    if not all([is_word(word, machine.letters) for word in value[1:]]):
        return False
    if value[0] == "empty" and len(value) == 1:
        return not machine.takes(())
    if value[0] == "stray" and len(value) == 2:
        return machine.takes(value[1]) and not group.telling.words.takes(value[1])
    if value[0] == "left" and len(value) == 3:
        return _is_left(group, machine, value[1], value[2])
    return False


def is_subgroup(group, machine):
    """Whether the words that the machine takes are the normal words of a subgroup's elements."""
    return subgroup_fault(group, machine) is None


def has_element(group, machine, word):
    """Whether the word's element is in the subgroup."""
    _check_subgroup(group, machine)
    return machine.takes(group.normal(word))


def common(group, one, other):
    """The least machine that takes the normal words of what both subgroups have."""
    _check_subgroup(group, one)
    _check_subgroup(group, other)
    return both(one, other)


def made_subgroup(group, words, most):
    """The least machine that takes the normal words of the subgroup made by the words; None if
    this has more than most elements."""
    if not is_sequence(words):
        raise InvalidWord(words)
    makers = in_order([group.normal(word) for word in words])
    _check_most(most)
    met = {(): True}
    waiting = [()]
    at = 0
    # Products alone are enough: where these come to an end, what undoes them is among them.
    while at < len(waiting) and len(waiting) <= most:
        for maker in makers:
            there = group.walker.walked(waiting[at], maker)
            if there not in met:
                met[there] = True
                waiting.append(there)
        at += 1
    return taking(group.telling.letters, waiting) if len(waiting) <= most else None


def index(group, machine, most):
    """How many unlike sets there are of all elements of the subgroup, each times one element
    of the group; None if there are more than most."""
    _check_subgroup(group, machine)
    _check_most(most)
    undo = group.telling.undo
    # A normal word for each set that is met, and to which sets letters are known to lead it.
    samples = [()]
    led = [{}]
    at = 0
    while at < len(samples) and len(samples) <= most:
        for x in range(len(undo)):
            if x not in led[at]:
                word = group.walker.led(samples[at], x)
                place = _place_of_set(group, machine, samples, led, word, undo[x])
                if place == len(samples):
                    samples.append(word)
                    led.append({})
                led[at][x] = place
                led[place][undo[x]] = at
        at += 1
    return len(samples) if len(samples) <= most else None


def _place_of_set(group, machine, samples, led, word, back):
    """The place of the sample whose set is that of the word, or the number of samples; back is
    the letter that leads from there to the set from which the word has come."""
    for place, sample in enumerate(samples):
        # A letter leads just one set to each set.
        if back not in led[place]:
            between = group.walker.walked(word, undone(group.telling.undo, sample))
            if machine.takes(between):
                return place
    return len(samples)


def _check_letters(group, machine):
    """Refuses a machine over other letters."""
    if machine.letters != group.telling.letters:
        raise Undefined("letters")


def _check_subgroup(group, machine):
    """Refuses a machine that does not take the normal words of a subgroup's elements."""
    if not is_subgroup(group, machine):
        raise Undefined("subgroup")


def _check_most(most):
    """Refuses what is no integer from 1 to the most that may be asked for."""
    if not is_whole(most) or not 1 <= most <= MOST:
        raise InvalidNumber(most)


def _left_fault(group, machine):
    """A word that is taken and that a loop word, or what undoes it, leads to one that is not;
    for a machine that takes nothing but normal words."""
    leads = Leads(group.telling)
    for loop in loop_words(group, machine):
        row = first_word(_parted(leads.by(loop), machine))
        if row is not None:
            u, v = sides(machine.letters, row)
            if machine.takes(u):
                return ("left", u, loop)
            return ("left", v, group.undone(loop))
    return None


def _is_left(group, machine, u, g):
    """Whether u is taken, g is a loop word or undoes one, and u times g is not taken."""
    if not machine.takes(u) or machine.takes(group.times(u, g)):
        return False
    loops = loop_words(group, machine)
    return g in loops or g in [group.undone(loop) for loop in loops]


def _parted(pairs, machine):
    """A machine that takes those of the pairs of which the machine takes just one word."""
    letters = machine.letters

    def moves(node):
        told = []
        for row, target in enumerate(pairs.table[node[0]]):
            if target is not None:
                a, b = divmod(row, letters + 1)
                after = (target, _after(machine, node[1], a), _after(machine, node[2], b))
                told.append((row, after))
        return told

    def is_end(node):
        return pairs.ends[node[0]] == 1 and bit_of(machine, node[1]) != bit_of(machine, node[2])

    return drawn_machine(pairs.letters, (0, 0, 0), moves, is_end)


def _after(machine, state, x):
    """The state to which a letter leads, or a blank, which leads nowhere else."""
    return state if x == machine.letters else after_letter(machine, state, x)
