"""The judge of tellings: whether they tell a group, and witnesses against them."""

from normalwords.basics import is_number
from normalwords.faults import apart_fault, moving_edge, places_fault
from normalwords.pairs import pair_letters, read_pair, takes_pair
from normalwords.relations import first_led
from normalwords.words import is_ahead, is_word, undone


def witness(telling):
    """Some witness against the telling, of the kind "apart" only if there is no other; None if
    there is none."""
    found = places_fault(telling)
    return apart_fault(telling) if found is None else found


def is_witness(telling, value):
    """Whether any value is a witness against the telling."""
    if not isinstance(value, tuple) or len(value) == 0 or not isinstance(value[0], str):
        return False
    if value[0] not in PARTS or not _are_parts(telling, PARTS[value[0]], value[1:]):
        return False
    holds = TESTS[value[0]]
    return holds(telling, value[1:])


def tells_group(telling):
    """Whether the telling tells a group."""
    return tells_places(telling) and moving_edge(telling) is None


def tells_places(telling):
    """Whether the telling tells places."""
    return places_fault(telling) is None


def _are_parts(telling, kinds, parts):
    """Whether the parts are of these kinds, as many as there are kinds."""
    if len(parts) != len(kinds):
        return False
    return all([_is_part(telling, kind, part) for kind, part in zip(kinds, parts)])


def _is_part(telling, kind, part):
    """Whether a value is a letter, a number, a word, a row of pair letters, a chain of words."""
    if kind == "letter":
        return is_number(part) and part < telling.letters
    if kind == "number":
        return is_number(part)
    if kind == "word":
        return is_word(part, telling.letters)
    if kind == "row":
        return is_word(part, pair_letters(telling.letters))
    return isinstance(part, tuple) and all([is_word(word, telling.letters) for word in part])


def _takes(telling, x, u, v):
    """Whether the step of the letter takes the pair."""
    return takes_pair(telling.steps[x], telling.letters, u, v)


def _is_empty(telling, _):
    return not telling.words.takes(())


def _is_beginning(telling, parts):
    w, n = parts
    return 1 <= n < len(w) and telling.words.takes(w) and not telling.words.takes(w[:n])


def _is_row(telling, parts):
    x, row = parts
    return telling.steps[x].takes(row) and read_pair(telling.letters, row) is None


def _is_stray(telling, parts):
    x, u, v = parts
    return _takes(telling, x, u, v) and not (telling.words.takes(u) and telling.words.takes(v))


def _is_none(telling, parts):
    x, u = parts
    return telling.words.takes(u) and first_led(telling.steps[x], telling.letters, u) is None


def _is_two(telling, parts):
    x, u, v, w = parts
    return is_ahead(v, w) and _takes(telling, x, u, v) and _takes(telling, x, u, w)


def _is_kept(telling, parts):
    x, u, v = parts
    return _takes(telling, x, u, v) and not _takes(telling, telling.undo[x], v, u)


def _is_short(telling, parts):
    x, u = parts
    longer = u + (x,)
    are_normal = telling.words.takes(u) and telling.words.takes(longer)
    return are_normal and not _takes(telling, x, u, longer)


def _is_apart(telling, parts):
    x, u, v, chain = parts
    ring = u + (x,) + undone(telling.undo, v)
    if len(chain) != len(ring) + 1 or chain[0] == chain[-1] or not _takes(telling, x, u, v):
        return False
    links = [_takes(telling, y, chain[i], chain[i + 1]) for i, y in enumerate(ring)]
    return all(links) and all([telling.words.takes(word) for word in chain])


# What stands behind the name of a witness's kind, and what must hold of it.
PARTS = {
    "empty": (),
    "beginning": ("word", "number"),
    "row": ("letter", "row"),
    "stray": ("letter", "word", "word"),
    "none": ("letter", "word"),
    "two": ("letter", "word", "word", "word"),
    "kept": ("letter", "word", "word"),
    "short": ("letter", "word"),
    "apart": ("letter", "word", "word", "chain"),
}
TESTS = {
    "empty": _is_empty,
    "beginning": _is_beginning,
    "row": _is_row,
    "stray": _is_stray,
    "none": _is_none,
    "two": _is_two,
    "kept": _is_kept,
    "short": _is_short,
    "apart": _is_apart,
}
