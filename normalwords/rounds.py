"""The integers, the integers modulo a number, and two mirrors."""

from normalwords.basics import is_whole
from normalwords.errors import InvalidNumber
from normalwords.finite import finite_group
from normalwords.frees import loose_group

# The most elements of a round group.
MOST_ELEMENTS = 8


def whole_numbers():
    """The integers under adding: letter 0 is 1, letter 1 is -1."""
    return loose_group((1, 0))


def round_group(n):
    """The integers modulo n: letter 0 is 1, letter 1 is -1."""
    if not is_whole(n) or not 1 <= n <= MOST_ELEMENTS:
        raise InvalidNumber(n)
    return finite_group((1, 0), 0, lambda a, x: (a + 1 - 2 * x) % n)


def mirrors():
    """The group of two letters, each its own undo, in which nothing else holds."""
    return loose_group((0, 1))
