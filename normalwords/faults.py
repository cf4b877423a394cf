"""What can be wrong with a telling: the finders of witnesses."""

from normalwords.edgewords import edge_origins
from normalwords.languages import first_tail, first_unlike, first_ways, first_without, least_machine
from normalwords.leads import Leads
from normalwords.machines import Machine
from normalwords.pairs import pair_letter, pair_letters, sides, stray_row
from normalwords.relations import all_pairs, first_led, firsts, second_led, swapped, twice_led
from normalwords.walkers import Walker
from normalwords.words import freely_reduced, in_order, undone


def places_fault(telling):
    """Some witness that is not of the kind "apart", or None."""
    if not telling.words.takes(()):
        return ("empty",)
    found = _beginning_fault(telling)
    if found is not None:
        return found
    for fault in STEP_FAULTS:
        for x in range(telling.letters):
            found = fault(telling, x)
            if found is not None:
                return found
    return None


def apart_fault(telling):
    """Some witness of the kind "apart", or None; for a telling that tells places."""
    found = moving_edge(telling)
    if found is None:
        return None
    ring, moved, (x, word, state, rows) = found
    walker = Walker(telling)
    start = moved_by(telling.undo, walker, word, ring, moved)
    tail = first_tail(least_machine(telling.steps[x]), state)
    for row in rows:
        p, _ = sides(telling.letters, row)
        u, v = sides(telling.letters, row + tail)
        chain = walker.chain(walker.walked(start, undone(telling.undo, p)), u + (x,) + undone(telling.undo, v))
        # Two rows to one state go on with the same tail. Led nowhere by the rings of both
        # pairs, no word could be moved by what the two rows differ by.
        if chain[0] != chain[-1]:
            return ("apart", x, u, v, chain)
    return None


def moving_edge(telling):
    """The first edge word that leads some normal word to another one, such a word, and the
    edge that tells it; or None. For a telling that tells places."""
    leads = Leads(telling)
    origins = edge_origins(telling)
    for ring in in_order(list(origins)):
        moved = _moved_word(telling, leads, ring)
        if moved is not None:
            return (ring, moved, origins[ring])
    return None


def moved_by(undo, walker, word, ring, moved):
    """A normal word that the word leads to another one; ring is its ring form, by which moved
    is led to another one."""
    left = freely_reduced(undo, word)
    ahead = left[:(len(left) - len(ring)) // 2]
    for here in walker.chain(moved, ring):
        start = walker.walked(here, undone(undo, ahead))
        if walker.walked(start, word) != start:
            return start
    return None


def _moved_word(telling, leads, ring):
    """A normal word that the ring leads to another one, or None."""
    # Both halves lead alike exactly if the ring leads all words to themselves, and half as
    # many letters make smaller machines.
    half = (len(ring) + 1) // 2
    row = first_unlike(leads.by(ring[:half]), leads.by(undone(telling.undo, ring[half:])))
    if row is None:
        return None
    u, _ = sides(telling.letters, row)
    return u


def _beginning_fault(telling):
    """A normal word with a beginning that is not normal; the empty word is normal."""
    words = least_machine(telling.words)
    for state, way in first_ways(words).items():
        if words.ends[state] == 0:
            return ("beginning", way + first_tail(words, state), len(way))
    return None


def _row_fault(telling, x):
    """A row that is not two words side by side."""
    row = stray_row(telling.steps[x], telling.letters)
    return None if row is None else ("row", x, row)


def _stray_fault(telling, x):
    """A pair that is taken, not both words being normal."""
    row = first_without(telling.steps[x], all_pairs(telling.words, telling.words))
    return _told_of_pair("stray", telling, x, row)


def _two_fault(telling, x):
    """A word that is led to two words."""
    u = twice_led(telling.steps[x], telling.letters)
    if u is None:
        return None
    v = first_led(telling.steps[x], telling.letters, u)
    w = second_led(telling.steps[x], telling.letters, u)
    return ("two", x, u, v, w)


def _kept_fault(telling, x):
    """A pair that is taken and not undone."""
    back = swapped(telling.steps[telling.undo[x]], telling.letters)
    return _told_of_pair("kept", telling, x, first_without(telling.steps[x], back))


def _short_fault(telling, x):
    """A normal word that the letter makes a longer one, but is not led to it."""
    row = first_without(_lengthened(telling, x), telling.steps[x])
    return None if row is None else ("short", x, sides(telling.letters, row)[0])


def _none_fault(telling, x):
    """A normal word that is led nowhere."""
    u = first_without(telling.words, firsts(telling.steps[x], telling.letters))
    return None if u is None else ("none", x, u)


def _told_of_pair(kind, telling, x, row):
    """The witness of this kind with the pair that is read as the row, None if there is no row."""
    if row is None:
        return None
    u, v = sides(telling.letters, row)
    return (kind, x, u, v)


def _lengthened(telling, x):
    """The pair machine that takes all normal words beside the normal words that are made of
    them by the letter x behind."""
    letters = telling.letters
    words = telling.words
    table = []
    for state, row in enumerate(words.table):
        pairs = [None] * pair_letters(letters)
        for y, target in enumerate(row):
            pairs[pair_letter(letters, y, y)] = target
        if words.ends[state] == 1 and row[x] is not None and words.ends[row[x]] == 1:
            pairs[pair_letter(letters, letters, x)] = len(words)
        table.append(tuple(pairs))
    table.append((None,) * pair_letters(letters))
    return Machine(pair_letters(letters), table, (0,) * len(words) + (1,))


# That some word is led nowhere is looked for last: a step that leads no word to two, and is
# undone, has few sets of states for it.
STEP_FAULTS = (_row_fault, _stray_fault, _two_fault, _kept_fault, _short_fault, _none_fault)
