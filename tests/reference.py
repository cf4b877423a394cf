"""Slow and plain ways to reckon what the package tells, and values that tests share."""

from itertools import product
from random import Random

from normalwords.machines import Machine

# Values of many kinds, none of which is a number, a word, a row or a sequence of such.
ODD_VALUES = (None, True, False, "", "01", -1, [0], (True,), (-1,), (None,), ("0",), ((0,),),
              Machine(1, [(0,)], [1]))


def words_up_to(letters, length):
    """All words of at most so many letters, in order."""
    return [word for n in range(length + 1) for word in product(range(letters), repeat=n)]


def taken(machine, length):
    """All words of at most so many letters that a machine takes, in order."""
    return [word for word in words_up_to(machine.letters, length) if takes(machine, word)]


def takes(machine, word):
    state = 0
    for x in word:
        state = machine.table[state][x]
        if state is None:
            return False
    return machine.ends[state] == 1


def unlike_length(one, other):
    """A length up to which two machines must be compared: unlike ones are so by then."""
    return len(one.table) + len(other.table)


def random_machine(random, letters, states, gaps=0.3):
    table = [tuple(None if random.random() < gaps else random.randrange(states)
                   for _ in range(letters)) for _ in range(states)]
    return Machine(letters, table, [random.randrange(2) for _ in range(states)])


def random_machines(seed, many, most_letters=3, most_states=8):
    random = Random(seed)
    return [random_machine(random, random.randint(1, most_letters), random.randint(1, most_states),
                           random.choice((0.0, 0.2, 0.5)))
            for _ in range(many)]


def random_pairs_of_machines(seed, many, most_letters=3, most_states=5):
    random = Random(seed)
    told = []
    for _ in range(many):
        letters = random.randint(1, most_letters)
        told.append(tuple(random_machine(random, letters, random.randint(1, most_states),
                                         random.choice((0.0, 0.2, 0.5))) for _ in range(2)))
    return told


def taking(letters, words):
    """A machine that takes just these words: a state for each beginning of one of them."""
    states = sorted({word[:n] for word in words for n in range(len(word) + 1)} | {()},
                    key=lambda word: (len(word), word))
    table = [tuple(states.index(state + (x,)) if state + (x,) in states else None
                   for x in range(letters)) for state in states]
    return Machine(letters, table, [1 if state in words else 0 for state in states])


def all_words(letters):
    """A machine that takes all words."""
    return Machine(letters, [(0,) * letters], [1])


def no_words(letters):
    """A machine that takes nothing."""
    return Machine(letters, [(None,) * letters], [0])
