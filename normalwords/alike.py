"""Whether two groups over the same letters are one, letter for letter."""

from normalwords.edgewords import edge_words
from normalwords.errors import Undefined


def unlike_word(one, other):
    """The first edge word of one that is not nothing in other; if there is none, the first one
    of other that is not nothing in one; or None."""
    if one.telling.undo != other.telling.undo:
        raise Undefined("letters")
    found = _first_lost(one, other)
    return _first_lost(other, one) if found is None else found


def are_alike(one, other):
    """Whether the same words are nothing in both groups."""
    return unlike_word(one, other) is None


def _first_lost(group, other):
    """The first edge word of group that is not nothing in other, or None."""
    for word in edge_words(group.telling):
        if not other.is_nothing(word):
            return word
    return None
