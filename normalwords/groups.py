"""Groups and places that are told by machines."""

from normalwords.basics import is_whole
from normalwords.counts import total
from normalwords.errors import InvalidNumber, InvalidWord, Undefined
from normalwords.judging import tells_group, tells_places
from normalwords.walkers import Walker
from normalwords.words import is_word, undone


class Group:
    """The group that a telling tells: its elements are told by their normal words."""

    def __init__(self, telling):
        if not tells_group(telling):
            raise Undefined("group")
        self.telling = telling
        self.walker = Walker(telling)

    def __eq__(self, other):
        return isinstance(other, Group) and self.telling == other.telling

    def normal(self, word):
        """The normal word equal to the word."""
        _check_words(self.telling, [word])
        return self.walker.walked((), word)

    def is_nothing(self, word):
        """Whether the word is equal to the empty word."""
        return self.normal(word) == ()

    def equal(self, one, other):
        """Whether both words are equal."""
        _check_words(self.telling, [one, other])
        return self.normal(one) == self.normal(other)

    def commute(self, one, other):
        """Whether one times other is other times one."""
        return self.times(one, other) == self.times(other, one)

    def times(self, one, other):
        """The normal word of one times other."""
        _check_words(self.telling, [one, other])
        return self.walker.walked(self.normal(one), other)

    def undone(self, word):
        """The normal word of what undoes the word."""
        _check_words(self.telling, [word])
        return self.normal(undone(self.telling.undo, word))

    def power(self, word, n):
        """The normal word of the word taken n times, or of what undoes it taken -n times."""
        _check_words(self.telling, [word])
        if not is_whole(n):
            raise InvalidNumber(n)
        # The normal word may be longer than the word, but then by no more than a few times;
        # and where powers come back to the empty word, it is much shorter.
        factor = self.normal(word) if n >= 0 else self.undone(word)
        told = ()
        for bit in f"{abs(n):b}":
            told = self.walker.walked(told, told)
            if bit == "1":
                told = self.walker.walked(told, factor)
        return told

    def order(self, word, most):
        """The least n from 1 to most such that the word taken n times is nothing, or None."""
        _check_words(self.telling, [word])
        if not is_whole(most) or most < 1:
            raise InvalidNumber(most)
        factor = self.normal(word)
        here = ()
        for n in range(1, most + 1):
            here = self.walker.walked(here, factor)
            if here == ():
                return n
        return None

    def size(self):
        """How many elements there are, None if not finitely many."""
        return total(self.telling.words)

    def is_commutative(self):
        """Whether each two elements commute."""
        letters = range(self.telling.letters)
        return all([self.commute((x,), (y,)) for x in letters for y in letters if x < y])


class Places:
    """The places that a telling tells, led to one another by words."""

    def __init__(self, telling):
        if not tells_places(telling):
            raise Undefined("places")
        self.telling = telling
        self.walker = Walker(telling)

    def __eq__(self, other):
        return isinstance(other, Places) and self.telling == other.telling

    def led(self, word, row):
        """The normal word to which row leads a normal word."""
        _check_words(self.telling, [word, row])
        if not self.telling.words.takes(word):
            raise Undefined("normal")
        return self.walker.walked(word, row)

    def stays(self, word):
        """Whether the word leads the empty word to itself."""
        _check_words(self.telling, [word])
        return self.walker.walked((), word) == ()

    def size(self):
        """How many normal words there are, None if not finitely many."""
        return total(self.telling.words)


def _check_words(telling, values):
    """Refuses the first value that is no word over the letters."""
    for value in values:
        if not is_word(value, telling.letters):
            raise InvalidWord(value)
