"""Walking over many letters: the steps of a telling that tells places, made ready for it."""

from normalwords.languages import first_tail, least_machine
from normalwords.machines import Machine
from normalwords.nets import drawn


class Walker:
    """Leads normal words by letters, for a telling that tells places."""

    def __init__(self, telling):
        self._readers = [StepReader(step, telling.letters) for step in telling.steps]

    def led(self, word, x):
        """The word to which the letter x leads a normal word."""
        return self._readers[x].led(word)

    def walked(self, word, row):
        """The word to which the letters of row lead a normal word."""
        here = word
        for x in row:
            here = self.led(here, x)
        return here

    def chain(self, word, row):
        """A normal word and the words to which the beginnings of row lead it."""
        words = [word]
        for x in row:
            words.append(self.led(words[-1], x))
        return tuple(words)


class StepReader:
    """A step's least machine, read by the left words alone."""

    # One right word goes with each left word, and each state leads to the end of some pair; so
    # beside the beginning of a left word there is just one way to each state that is met, and
    # the state alone tells the way back.

    def __init__(self, step, letters):
        machine = least_machine(step)
        rights = [_rights_by_left(row, letters) for row in machine.table]
        sets, net = _sets_met(rights, letters)
        self._letters = letters
        self._after = [dict(told) for told in net]
        self._backs = [[_backs(rights, states, a) for a in range(letters)] for states in sets]
        self._tails = _tails(machine, letters)
        self._lasts = [_last_of(states, self._tails) for states in sets]

    def led(self, word):
        """The right word that goes with a left word."""
        node = 0
        backs = []
        for a in word:
            backs.append(self._backs[node][a])
            node = self._after[node][a]
        state = self._lasts[node]
        told = list(self._tails[state][::-1])
        for back in reversed(backs):
            state, b = back[state]
            if b < self._letters:
                told.append(b)
        return tuple(told[::-1])


def _rights_by_left(row, letters):
    """For each left letter the right letters beside it, the blank too, and the states to which
    both lead."""
    size = letters + 1
    parts = [row[a * size:a * size + size] for a in range(letters)]
    return [[(b, t) for b, t in enumerate(part) if t is not None] for part in parts]


def _sets_met(rights, letters):
    """The sets of states that are met beside the beginnings of left words, and the net of the
    left letters between them."""
    def moves(states):
        told = [(a, tuple(sorted(_backs(rights, states, a)))) for a in range(letters)]
        return [(a, after) for a, after in told if len(after) > 0]

    return drawn((0,), moves)


def _backs(rights, states, a):
    """For each state to which a left letter leads from a set of states, from which one of these
    and beside which right letter."""
    return {t: (s, b) for s in states for b, t in rights[s][a]}


def _tails(machine, letters):
    """For each state the right word that leads from it, beside blanks, to a state with bit 1,
    or None."""
    first = letters * (letters + 1)
    ahead = Machine(letters, [row[first:] for row in machine.table], machine.ends)
    return [first_tail(ahead, state) for state in range(len(machine))]


def _last_of(states, tails):
    """The state among these at which the left word may end, or None."""
    for state in states:
        if tails[state] is not None:
            return state
    return None
