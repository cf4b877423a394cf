"""Walking over many letters: the steps of a telling that tells places, made ready for it."""

from normalwords.languages import first_tail, least_machine, listed
from normalwords.machines import Machine
from normalwords.nets import drawn, table_of


class Walker:
    """Leads normal words by letters, for a telling that tells places."""

    def __init__(self, telling):
        self._readers = [StepReader(step, telling.letters) for step in telling.steps]

    def led(self, word, x):
        """The word to which the letter x leads a normal word."""
        return self.walked(word, (x,))

    def walked(self, word, row):
        """The word to which the letters of row lead a normal word."""
        walk = Walk(self._readers, word)
        for x in row:
            walk.lead(x)
        return walk.here()

    def chain(self, word, row):
        """A normal word and the words to which the beginnings of row lead it."""
        walk = Walk(self._readers, word)
        words = [word]
        for x in row:
            walk.lead(x)
            words.append(walk.here())
        return tuple(words)


class Walk:
    """A normal word that is led by one letter after another."""

    # Most letters change a long word at its end only. So for each step the places are kept that
    # it meets along the word, as far as they are known.

    def __init__(self, readers, word):
        self._readers = readers
        self._letters = list(word)
        self._tracks = [[0] for _ in readers]

    def here(self):
        """The word to which all letters have led so far."""
        return tuple(self._letters)

    def lead(self, x):
        """Leads the word by the letter x."""
        reader = self._readers[x]
        track = self._tracks[x]
        for a in self._letters[len(track) - 1:]:
            track.append(reader.place_after(track[-1], a))
        at, end = reader.changed_end(self._letters, track)
        self._letters[at:] = end
        for other in self._tracks:
            del other[at + 1:]


class StepReader:
    """A step, read by the left words alone: its places are the sets of states that are met
    beside the beginnings of left words."""

    # One right word goes with each left word, and each state leads to the end of some pair; so
    # beside the beginning of a left word there is just one way to each state that is met, and
    # the state alone tells the way back.

    def __init__(self, step, letters):
        table, self._is_same, ends = _watching(least_machine(step), letters)
        rights = [_rights_by_left(row, letters) for row in table]
        sets, net = _sets_met(rights, letters)
        self._letters = letters
        self._after = [dict(told) for told in net]
        self._backs = [[_backs(rights, states, a) for a in range(letters)] for states in sets]
        self._tails = _tails(table, ends, letters)
        self._lasts = [_last_of(states, self._tails) for states in sets]

    def place_after(self, place, a):
        """The place behind one more letter of the left word."""
        return self._after[place][a]

    def changed_end(self, word, track):
        """From where on the right word that goes with a left word differs from it, and what it
        has from there on; track has the places along the left word."""
        at = len(word)
        state = self._lasts[track[at]]
        told = list(self._tails[state][::-1])
        while not self._is_same[state]:
            at -= 1
            state, b = self._backs[track[at]][word[at]][state]
            if b < self._letters:
                told.append(b)
        return (at, told[::-1])


def _watching(machine, letters):
    """The table of a pair machine whose states also tell whether both sides are the same so
    far, for each state whether they are, and the ends."""
    def moves(node):
        told = []
        for letter, t in listed(machine.table[node[0]]):
            a, b = divmod(letter, letters + 1)
            told.append((letter, (t, node[1] and a == b)))
        return told

    nodes, net = drawn((0, True), moves)
    table = table_of(machine.letters, net)
    return table, [is_same for _, is_same in nodes], [machine.ends[state] for state, _ in nodes]


def _rights_by_left(row, letters):
    """For each left letter the right letters beside it, the blank too, and the states to which
    both lead."""
    size = letters + 1
    return [listed(row[a * size:a * size + size]) for a in range(letters)]


def _sets_met(rights, letters):
    """The sets of states that are met beside the beginnings of left words, and the net of the
    left letters between them."""
    def moves(states):
        told = [(a, tuple(sorted(_backs(rights, states, a)))) for a in range(letters)]
        return [(a, after) for a, after in told if len(after) > 0]

    return drawn((0,), moves)


def _backs(rights, states, a):
    """For each state to which a left letter leads from a set of states, from which one of these
    and beside which right letter."""
    return {t: (s, b) for s in states for b, t in rights[s][a]}


def _tails(table, ends, letters):
    """For each state the right word that leads from it, beside blanks, to a state with bit 1,
    or None."""
    first = letters * (letters + 1)
    ahead = Machine(letters, [row[first:] for row in table], ends)
    return [first_tail(ahead, state) for state in range(len(table))]


def _last_of(states, tails):
    """The state among these at which the left word may end, or None."""
    for state in states:
        if tails[state] is not None:
            return state
    return None
