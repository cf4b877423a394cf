"""Kinds of values that many modules ask for."""


def is_whole(value):
    """Whether a value is an integer; the bools, though ints in Python, are none."""
    return isinstance(value, int) and not isinstance(value, bool)


def is_number(value):
    """Whether a value is an integer from 0 on."""
    return is_whole(value) and value >= 0


def is_sequence(value):
    """Whether a value may be passed where a sequence is expected."""
    return isinstance(value, (list, tuple))


def first_fault(rights, many):
    """The first place with False; if rights has not so many members and none ahead is False,
    the lesser of both numbers; None if nothing is wrong."""
    least = min(len(rights), many)
    for place in range(least):
        if not rights[place]:
            return place
    if len(rights) != many:
        return least
    return None
