"""A desk at which an element of a group is held and changed by commands."""

from normalwords.errors import InvalidCommand, NothingToUndo, Undefined
from normalwords.groups import Group

# What stands behind the first part of a command.
PARTS = {"go": "word", "back": "", "home": "", "now": "", "length": "", "power": "number", "is": "word",
         "undo": "", "redo": ""}
CHANGES = ("go", "back", "home")
FIGURES = "0123456789"
MOST_TIMES = 40


class Desk:
    """A desk: held is the normal word of the element that is held."""

    def __init__(self, group):
        if not isinstance(group, Group):
            raise Undefined("group")
        self.held = ()
        self._group = group
        # What was held ahead of each change that is not undone, and behind each that is.
        self._before = []
        self._undone = []

    def run(self, command):
        """The answer to a command."""
        first, value = _read(command, self._group.telling.letters)
        if first in CHANGES:
            self._change(first, value)
        elif first == "undo":
            self._move("undo", self._before, self._undone)
        elif first == "redo":
            self._move("redo", self._undone, self._before)
        else:
            return self._answer(first, value)
        return _written(self.held)

    def _change(self, first, value):
        """Runs a change."""
        self._before.append(self.held)
        self._undone.clear()
        if first == "go":
            self.held = self._group.times(self.held, value)
        elif first == "back":
            self.held = self._group.undone(self.held)
        else:
            self.held = ()

    def _move(self, first, source, target):
        """Undoes a change, or does it again."""
        if len(source) == 0:
            raise NothingToUndo(first)
        target.append(self.held)
        self.held = source.pop()

    def _answer(self, first, value):
        """The answer to a question."""
        if first == "length":
            return str(len(self.held))
        if first == "power":
            return _written(self._group.power(self.held, value))
        if first == "is":
            return "yes" if self._group.normal(value) == self.held else "no"
        return _written(self.held)


def _read(command, letters):
    """The first part of a command, and the word or the number that stands behind it, or None."""
    parts = command.split(" ")
    if parts[0] not in PARTS:
        raise InvalidCommand(command, 0)
    told = [parts[0], None]
    at = len(parts[0]) + 1
    if PARTS[parts[0]] != "":
        if len(parts) == 1:
            raise InvalidCommand(command, len(command))
        told[1] = _word(parts[1], letters) if PARTS[parts[0]] == "word" else _times(parts[1])
        if told[1] is None:
            raise InvalidCommand(command, at)
        at += len(parts[1]) + 1
    if at <= len(command):
        raise InvalidCommand(command, at)
    return told


def _word(part, letters):
    """The word that is written so, or None."""
    if part == "-":
        return ()
    figures = part.split(",")
    if not all([len(figure) == 1 and figure in FIGURES[:letters] for figure in figures]):
        return None
    return tuple([int(figure) for figure in figures])


def _times(part):
    """The number of times that is written so, or None."""
    numbers = [str(n) for n in range(MOST_TIMES + 1)]
    return numbers.index(part) if part in numbers else None


def _written(word):
    """A word as commands and answers have it."""
    return "-" if len(word) == 0 else ",".join([str(x) for x in word])
