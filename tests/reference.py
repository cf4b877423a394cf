"""Slow and plain ways to reckon what the package tells, and values that tests share."""

from itertools import product
from random import Random

from normalwords.machines import Machine

# Values of many kinds, none of which is a number, a word, a row or a sequence of such.
ODD_VALUES = (None, True, False, "", "01", -1, [0], (True,), (-1,), (None,), ("0",), ((0,),),
              Machine(1, [(0,)], [1]))


def words_up_to(letters, length):
    """All words of at most so many letters, in order."""
    return [word for n in range(length + 1) for word in product(range(letters), repeat=n)]


def taken(machine, length):
    """All words of at most so many letters that a machine takes, in order."""
    return [word for word in words_up_to(machine.letters, length) if takes(machine, word)]


def takes(machine, word):
    state = 0
    for x in word:
        state = machine.table[state][x]
        if state is None:
            return False
    return machine.ends[state] == 1


def unlike_length(one, other):
    """A length up to which two machines must be compared: unlike ones are so by then."""
    return len(one.table) + len(other.table)


def random_machine(random, letters, states, gaps=0.3):
    table = [tuple(None if random.random() < gaps else random.randrange(states)
                   for _ in range(letters)) for _ in range(states)]
    return Machine(letters, table, [random.randrange(2) for _ in range(states)])


def random_machines(seed, many, most_letters=3, most_states=8):
    random = Random(seed)
    return [random_machine(random, random.randint(1, most_letters), random.randint(1, most_states),
                           random.choice((0.0, 0.2, 0.5)))
            for _ in range(many)]


def random_pairs_of_machines(seed, many, most_letters=3, most_states=5):
    random = Random(seed)
    told = []
    for _ in range(many):
        letters = random.randint(1, most_letters)
        told.append(tuple(random_machine(random, letters, random.randint(1, most_states),
                                         random.choice((0.0, 0.2, 0.5))) for _ in range(2)))
    return told


def taking(letters, words):
    """A machine that takes just these words: a state for each beginning of one of them."""
    states = sorted({word[:n] for word in words for n in range(len(word) + 1)} | {()},
                    key=lambda word: (len(word), word))
    table = [tuple(states.index(state + (x,)) if state + (x,) in states else None
                   for x in range(letters)) for state in states]
    return Machine(letters, table, [1 if state in words else 0 for state in states])


def all_words(letters):
    """A machine that takes all words."""
    return Machine(letters, [(0,) * letters], [1])


def no_words(letters):
    """A machine that takes nothing."""
    return Machine(letters, [(None,) * letters], [0])


def beside(letters, u, v):
    """Two words read side by side, pair letter by pair letter."""
    size = letters + 1
    row = []
    for n in range(max(len(u), len(v))):
        x = u[n] if n < len(u) else letters
        y = v[n] if n < len(v) else letters
        row.append(x * size + y)
    return tuple(row)


def pairs_up_to(letters, length):
    words = words_up_to(letters, length)
    return [(u, v) for u in words for v in words]


def taken_pairs(machine, letters, length):
    """All pairs of words of at most so many letters that a machine takes."""
    return [(u, v) for u, v in pairs_up_to(letters, length) if takes(machine, beside(letters, u, v))]


def random_pair_machine(random, letters, states, gaps=0.3):
    """A machine that takes nothing but words side by side: its states watch for blanks."""
    size = letters + 1
    plain = random_machine(random, size * size - 1, states, gaps)
    table = []
    for watch in range(3):
        for row in plain.table:
            told = []
            for letter, state in enumerate(row):
                x, y = divmod(letter, size)
                if watch == 1 and x < letters or watch == 2 and y < letters or state is None:
                    told.append(None)
                else:
                    told.append(state + states * (1 if x == letters else 2 if y == letters else 0))
            table.append(tuple(told))
    return Machine(size * size - 1, table, plain.ends * 3)


def pairing(letters, pairs):
    """A pair machine that takes just these pairs."""
    return taking((letters + 1) ** 2 - 1, [beside(letters, u, v) for u, v in pairs])


def random_words(random, letters, many, length):
    return sorted({tuple(random.randrange(letters) for _ in range(random.randint(0, length)))
                   for _ in range(many)})


def random_pairs(random, letters, many, length):
    """Pairs of words of at most so many letters."""
    return sorted({(random.choice(random_words(random, letters, 3, length)),
                    random.choice(random_words(random, letters, 3, length))) for _ in range(many)})


def free_steps(undo):
    """The words without a letter beside its undo, and for each letter the pair machine that
    takes (u, v) if such words are one another with the letter behind."""
    letters = len(undo)
    size = letters + 1
    # State 0 is the start, state x + 1 stands behind the letter x.
    table = [tuple(x + 1 if state == 0 or undo[state - 1] != x else None for x in range(letters))
             for state in range(letters + 1)]
    steps = []
    for x in range(letters):
        rows = []
        for state, row in enumerate(table):
            told = [None] * (size * size - 1)
            for y, after in enumerate(row):
                told[y * size + y] = after
            if row[x] is not None:
                told[letters * size + x] = size
            if row[undo[x]] is not None:
                told[undo[x] * size + letters] = size
            rows.append(tuple(told))
        rows.append((None,) * (size * size - 1))
        steps.append(Machine(size * size - 1, rows, [0] * size + [1]))
    return Machine(letters, table, [1] * (letters + 1)), steps


def first_forms(n, makers):
    """For each number below n the first word whose letters' numbers, one for each letter, add
    up to it, n being taken away as often as need be."""
    forms = {0: ()}
    order = [0]
    for a in order:
        for x, b in enumerate(makers):
            if (a + b) % n not in forms:
                forms[(a + b) % n] = forms[a] + (x,)
                order.append((a + b) % n)
    return forms


def round_steps(n, makers):
    """The machines of the numbers below n: their first words, and a step for each maker."""
    forms = first_forms(n, makers)
    steps = [pairing(len(makers), [(forms[a], forms[(a + b) % n]) for a in range(n)]) for b in makers]
    return taking(len(makers), list(forms.values())), steps
