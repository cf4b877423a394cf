"""What machines take: least machines, and machines made of two."""

from normalwords.basics import is_number
from normalwords.errors import InvalidNumber, Undefined
from normalwords.machines import Machine
from normalwords.nets import drawn_machine, reached, reaching

# What two bits make, at the place 2 a + b.
BOTH = (0, 0, 0, 1)
EITHER = (0, 1, 1, 1)
WITHOUT = (0, 0, 1, 0)
UNLIKE = (0, 1, 1, 0)


def least_machine(machine):
    """The machine with the fewest states that takes the same words."""
    live = live_states(machine)
    if not live[0]:
        return Machine(machine.letters, [(None,) * machine.letters], [0])
    kinds = _kinds(machine, live)
    samples = {kind: state for state, kind in enumerate(kinds)}

    def moves(here):
        row = machine.table[samples[here]]
        return [(x, kinds[t]) for x, t in enumerate(row) if t is not None and live[t]]

    def is_end(here):
        return machine.ends[samples[here]] == 1

    return drawn_machine(machine.letters, kinds[0], moves, is_end)


def both(one, other):
    """The least machine that takes what both take."""
    return least_machine(_combined(one, other, BOTH))


def either(one, other):
    """The least machine that takes what one or the other takes."""
    return least_machine(_combined(one, other, EITHER))


def without(one, other):
    """The least machine that takes what one takes and other does not."""
    return least_machine(_combined(one, other, WITHOUT))


def first_word(machine):
    """The first word that the machine takes, or None."""
    return first_tail(machine, 0)


def first_unlike(one, other):
    """The first word that just one of both takes, or None."""
    return first_word(_combined(one, other, UNLIKE))


def is_within(one, other):
    """Whether other takes all that one takes."""
    return first_without(one, other) is None


def first_without(one, other):
    """The first word that one takes and other does not, or None."""
    return first_word(_combined(one, other, WITHOUT))


def has_beginnings(machine):
    """Whether the machine takes the empty word and all beginnings of what it takes."""
    # Each state of a least machine leads to a taken word, so each one ends a beginning.
    return all([bit == 1 for bit in least_machine(machine).ends])


def words_of(machine, length):
    """All words of so many letters that the machine takes, ascending."""
    if not is_number(length):
        raise InvalidNumber(length)
    hopes = _hopes(machine, length)
    ways = [((), 0)] if hopes[length][0] else []
    for left in reversed(range(length)):
        longer = []
        for word, state in ways:
            for x, t in enumerate(machine.table[state]):
                if t is not None and hopes[left][t]:
                    longer.append((word + (x,), t))
        ways = longer
    return tuple([word for word, _ in ways])


def first_tail(machine, start):
    """The first word that leads from the state start to one with bit 1, or None."""
    for state, word in first_ways(machine, start).items():
        if machine.ends[state] == 1:
            return word
    return None


def first_ways(machine, start=0):
    """For each state to which words lead from start the first one of these, the states in the
    order of these words."""
    ways = {start: ()}
    order = [start]
    at = 0
    while at < len(order):
        state = order[at]
        for x, t in enumerate(machine.table[state]):
            if t is not None and t not in ways:
                ways[t] = ways[state] + (x,)
                order.append(t)
        at += 1
    return ways


def taking(letters, words):
    """The least machine that takes just these words."""
    table = [[None] * letters]
    ends = [0]
    for word in words:
        state = 0
        for x in word:
            if table[state][x] is None:
                table[state][x] = len(table)
                table.append([None] * letters)
                ends.append(0)
            state = table[state][x]
        ends[state] = 1
    return least_machine(Machine(letters, [tuple(row) for row in table], ends))


def respelled(machine, letters, places):
    """The machine over so many letters that reads places[x] as the machine reads x."""
    table = []
    for row in machine.table:
        told = [None] * letters
        for x, t in enumerate(row):
            told[places[x]] = t
        table.append(tuple(told))
    return Machine(letters, table, machine.ends)


def listed(row):
    """The letters of a row that lead to a state, with these states."""
    return [(x, t) for x, t in enumerate(row) if t is not None]


def live_states(machine):
    """For each state whether it is live."""
    follows = targets_of(machine)
    goals = [state for state in range(len(machine)) if machine.ends[state] == 1]
    ahead = reached(follows, [0])
    behind = reaching(follows, goals)
    return [ahead[state] and behind[state] for state in range(len(machine))]


def targets_of(machine):
    """For each state those to which letters lead from it, one for each such letter."""
    return [[t for t in row if t is not None] for row in machine.table]


def _kinds(machine, live):
    """For each live state a number, equal for two exactly if the same words lead from them
    to states with bit 1; -1 for the other states."""
    kinds = [machine.ends[state] if live[state] else -1 for state in range(len(machine))]
    many = 0
    while many < len(set(kinds)):
        many = len(set(kinds))
        kinds = _finer(machine, kinds)
    return kinds


def _finer(machine, kinds):
    """The kinds, parted by the kinds to which the letters lead."""
    numbers = {}
    finer = []
    for state, row in enumerate(machine.table):
        look = (kinds[state], tuple([-1 if t is None else kinds[t] for t in row]))
        if kinds[state] < 0:
            finer.append(-1)
        else:
            finer.append(numbers.setdefault(look, len(numbers)))
    return finer


def _combined(one, other, bits):
    """A machine that takes a word according to the bits whether one, other takes it."""
    if one.letters != other.letters:
        raise Undefined("letters")

    def moves(pair):
        told = []
        for x in range(one.letters):
            after = (after_letter(one, pair[0], x), after_letter(other, pair[1], x))
            if after != (None, None):
                told.append((x, after))
        return told

    def is_end(pair):
        return bits[2 * bit_of(one, pair[0]) + bit_of(other, pair[1])] == 1

    return drawn_machine(one.letters, (0, 0), moves, is_end)


def after_letter(machine, state, x):
    """The state to which x leads, None from None."""
    return None if state is None else machine.table[state][x]


def bit_of(machine, state):
    """The state's bit, 0 for None."""
    return 0 if state is None else machine.ends[state]


def _hopes(machine, length):
    """For each number of letters up to length, and each state, whether some word of so many
    letters leads from it to a state with bit 1."""
    follows = targets_of(machine)
    hopes = [[bit == 1 for bit in machine.ends]]
    for n in range(length):
        hopes.append([any([hopes[n][t] for t in targets]) for targets in follows])
    return hopes
