"""Machines and tellings as texts."""

from normalwords.errors import InvalidText
from normalwords.machines import MOST_LETTERS, Machine
from normalwords.pairs import pair_letters
from normalwords.tellings import Telling
from normalwords.words import is_undo

FIGURES = "0123456789"
MOST_FIGURES = 6


def write_machine(machine):
    """The text of a machine."""
    lines = [f"machine {machine.letters} {len(machine)}"]
    for row, bit in zip(machine.table, machine.ends):
        parts = ["." if t is None else str(t) for t in row]
        lines.append(" ".join(["+" if bit == 1 else "-"] + parts))
    return "\n".join(lines)


def read_machine(text):
    """The machine whose text this is."""
    lines = Lines(text)
    parts = lines.next_parts()
    letters = _number(parts[1]) if len(parts) == 3 else None
    if letters is None or not 1 <= letters <= MOST_LETTERS:
        lines.refuse()
    machine = _rest_of_machine(lines, parts, letters)
    lines.check_end()
    return machine


def write_telling(telling):
    """The text of a telling."""
    lines = [" ".join(["telling"] + [str(x) for x in telling.undo]), write_machine(telling.words)]
    return "\n".join(lines + [write_machine(step) for step in telling.steps])


def read_telling(text):
    """The telling whose text this is."""
    lines = Lines(text)
    parts = lines.next_parts()
    undo = tuple([_number(part) for part in parts[1:]])
    if parts[0] != "telling" or not is_undo(undo):
        lines.refuse()
    words = _rest_of_machine(lines, lines.next_parts(), len(undo))
    steps = [_rest_of_machine(lines, lines.next_parts(), pair_letters(len(undo))) for _ in undo]
    lines.check_end()
    return Telling(undo, words, steps)


class Lines:
    """The lines of a text, read one behind another."""

    def __init__(self, text):
        self._text = text
        self._lines = text.split("\n")
        self._read = 0
        # Where the line begins that was read last.
        self._at = 0

    def next_parts(self):
        """The parts of the next line."""
        if self._read == len(self._lines):
            raise InvalidText(self._text, len(self._text))
        if self._read > 0:
            self._at += len(self._lines[self._read - 1]) + 1
        self._read += 1
        return self._lines[self._read - 1].split(" ")

    def refuse(self):
        """Refuses the text for the line that was read last."""
        raise InvalidText(self._text, self._at)

    def check_end(self):
        """Refuses the text for its next line, if there is one."""
        if self._read < len(self._lines):
            self.next_parts()
            self.refuse()


def _rest_of_machine(lines, parts, letters):
    """The machine over so many letters whose first line has these parts, its other lines being
    the next ones."""
    states = _number(parts[2]) if len(parts) == 3 else None
    if parts[0] != "machine" or states is None or states == 0 or parts[1] != str(letters):
        lines.refuse()
    table = []
    ends = []
    # Behind each state there is a line, so a great number of states is not believed at once.
    while len(table) < states:
        told = lines.next_parts()
        row = [_target(part, states) for part in told[1:]]
        if told[0] not in ("+", "-") or len(row) != letters or -1 in row:
            lines.refuse()
        table.append(tuple(row))
        ends.append(1 if told[0] == "+" else 0)
    return Machine(letters, table, ends)


def _target(part, states):
    """The state, or None, that a part of a line tells; -1 if it tells none."""
    if part == ".":
        return None
    state = _number(part)
    return -1 if state is None or state >= states else state


def _number(part):
    """The number that is written so, or None."""
    if not 1 <= len(part) <= MOST_FIGURES or not all([figure in FIGURES for figure in part]):
        return None
    return int(part) if part == "0" or part[0] != "0" else None
