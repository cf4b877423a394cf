"""Tellings: machines that are handed in to tell a group."""

from normalwords.basics import first_fault, is_number, is_sequence
from normalwords.errors import InvalidNumber, InvalidTelling, InvalidWord
from normalwords.machines import Machine
from normalwords.pairs import pair_letters
from normalwords.relations import first_led
from normalwords.words import is_undo, is_word


class Telling:
    """A telling: words takes the normal words, and steps[x] takes (u, v) if letter x leads u
    to v."""

    def __init__(self, undo, words, steps):
        if not is_undo(undo):
            raise InvalidTelling("undo", 0)
        if not _reads(words, len(undo)):
            raise InvalidTelling("words", 0)
        place = _steps_fault(len(undo), steps)
        if place is not None:
            raise InvalidTelling("steps", place)
        self.undo = undo
        self.words = words
        self.steps = tuple(steps)
        self.letters = len(undo)

    def __eq__(self, other):
        return (isinstance(other, Telling) and self.undo == other.undo
                and self.words == other.words and self.steps == other.steps)

    def led(self, word, x):
        """The first word to which the letter x leads the word, or None."""
        if not is_word(word, self.letters):
            raise InvalidWord(word)
        if not is_number(x) or x >= self.letters:
            raise InvalidNumber(x)
        return first_led(self.steps[x], self.letters, word)

    def walked(self, word, row):
        """The word to which the letters of row lead the word, or None."""
        for value in (word, row):
            if not is_word(value, self.letters):
                raise InvalidWord(value)
        here = word
        for x in row:
            here = self.led(here, x)
            if here is None:
                return None
        return here


def _reads(value, letters):
    """Whether a value is a machine over so many letters."""
    return isinstance(value, Machine) and value.letters == letters


def _steps_fault(letters, steps):
    """The place of the first wrong step, or None."""
    if not is_sequence(steps):
        return 0
    return first_fault([_reads(step, pair_letters(letters)) for step in steps], letters)
