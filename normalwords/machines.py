"""Machines that read words letter by letter."""

from normalwords.basics import first_fault, is_number, is_sequence, is_whole
from normalwords.errors import InvalidMachine, InvalidWord
from normalwords.words import is_word

# The pair letters over the most letters that an undo may have.
MOST_LETTERS = 48


class Machine:
    """A machine: table[s][x] is the state to which letter x leads from state s, or None."""

    def __init__(self, letters, table, ends):
        if not is_whole(letters) or not 1 <= letters <= MOST_LETTERS:
            raise InvalidMachine("letters", 0)
        place = _table_fault(letters, table)
        if place is not None:
            raise InvalidMachine("table", place)
        place = _ends_fault(len(table), ends)
        if place is not None:
            raise InvalidMachine("ends", place)
        self.letters = letters
        self.table = tuple(table)
        self.ends = tuple(ends)

    def __eq__(self, other):
        return (isinstance(other, Machine) and self.letters == other.letters
                and self.table == other.table and self.ends == other.ends)

    def __len__(self):
        return len(self.table)

    def state_after(self, word):
        """The state to which the word leads from the start, or None."""
        if not is_word(word, self.letters):
            raise InvalidWord(word)
        state = 0
        for x in word:
            state = self.table[state][x]
            if state is None:
                return None
        return state

    def takes(self, word):
        """Whether the word leads to a state with bit 1."""
        state = self.state_after(word)
        return state is not None and self.ends[state] == 1


def _table_fault(letters, table):
    """The place of the first wrong row, or None."""
    if not is_sequence(table) or len(table) == 0:
        return 0
    return first_fault([_is_row(row, letters, len(table)) for row in table], len(table))


def _is_row(value, letters, states):
    """Whether a value is a row of a table of so many states."""
    if not isinstance(value, tuple) or len(value) != letters:
        return False
    return all([t is None or (is_number(t) and t < states) for t in value])


def _ends_fault(states, ends):
    """The place of the first wrong bit, or None."""
    if not is_sequence(ends):
        return 0
    return first_fault([is_whole(bit) and 0 <= bit <= 1 for bit in ends], states)
