"""Ring forms of words, and the edge words of tellings."""

from normalwords.languages import first_ways, least_machine
from normalwords.pairs import sides
from normalwords.words import freely_reduced, in_order, undone


def ring_form(undo, word):
    """The first of all turns of what is left of the word, or of what undoes this."""
    left = freely_reduced(undo, word)
    while len(left) > 1 and undo[left[0]] == left[-1]:
        left = left[1:-1]
    turns = []
    for ring in (left, undone(undo, left)):
        turns.extend([ring[n:] + ring[:n] for n in range(len(ring))])
    return min(turns, default=())


def edge_words(telling):
    """All edge words of the telling, in order."""
    return in_order(list(edge_origins(telling)))


def edge_origins(telling):
    """For each edge word the first one of told_edges that tells it."""
    origins = {}
    for x in range(telling.letters):
        for told in told_edges(telling, x):
            ring = ring_form(telling.undo, told[1])
            if len(ring) > 0:
                origins.setdefault(ring, told)
    return origins


def told_edges(telling, x):
    """For each edge and each end of the least machine of steps[x]: the letter x, the word that
    is told, a state, and the row or the two rows of pair letters to this state that tell it."""
    machine = least_machine(telling.steps[x])
    ways = first_ways(machine)
    told = []
    for state, way in ways.items():
        for letter, target in enumerate(machine.table[state]):
            if target is not None:
                rows = (way + (letter,), ways[target])
                back = undone(telling.undo, _difference(telling, ways[target]))
                word = _difference(telling, way + (letter,)) + back
                told.append((x, word, target, rows))
        if machine.ends[state] == 1:
            told.append((x, _difference(telling, way) + (telling.undo[x],), state, (way,)))
    return told


def _difference(telling, row):
    """The word that leads from the left word of a row to the right one."""
    p, q = sides(telling.letters, row)
    return undone(telling.undo, p) + q
