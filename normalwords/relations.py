"""Pair machines as relations: turned, cut, put one behind the other, and followed."""

from normalwords.errors import InvalidWord
from normalwords.languages import least_machine, listed, respelled
from normalwords.nets import determined, drawn, way_to
from normalwords.pairs import pair_letter, pair_letters
from normalwords.words import is_word


def swapped(machine, letters):
    """The least pair machine that takes (v, u) for the pairs (u, v) taken."""
    parts = [divmod(letter, letters + 1) for letter in range(machine.letters)]
    places = [pair_letter(letters, y, x) for x, y in parts]
    return least_machine(respelled(machine, machine.letters, places))


def firsts(machine, letters):
    """The least machine that takes the left words of the pairs taken."""
    table = _with_blanks(least_machine(machine))

    def moves(state):
        return [(letter // (letters + 1), t) for letter, t in listed(table[state])]

    return _least_told(letters, 0, len(table) - 1, moves)


def seconds(machine, letters):
    """The least machine that takes the right words of the pairs taken."""
    return firsts(swapped(machine, letters), letters)


def behind(one, other, letters):
    """The least pair machine that takes (u, w) if for some v one takes (u, v), other (v, w)."""
    ones = [_by_right(row, letters) for row in _with_blanks(least_machine(one))]
    others = [_by_left(row, letters) for row in _with_blanks(least_machine(other))]

    def moves(node):
        told = []
        for lefts, rights in zip(ones[node[0]], others[node[1]]):
            for x, s in lefts:
                told.extend([(pair_letter(letters, x, z), (s, t)) for z, t in rights])
        return told

    goal = (len(ones) - 1, len(others) - 1)
    return _least_told(pair_letters(letters), (0, 0), goal, moves)


def equal_pairs(machine):
    """The least pair machine that takes (u, u) for all u that the machine takes."""
    letters = machine.letters
    places = [pair_letter(letters, x, x) for x in range(letters)]
    return least_machine(respelled(machine, pair_letters(letters), places))


def all_pairs(one, other):
    """The least pair machine that takes (u, v) if one takes u and other takes v."""
    letters = one.letters
    ones = _with_blanks(one)
    others = _with_blanks(other)

    def moves(node):
        lefts = listed(ones[node[0]])
        rights = listed(others[node[1]])
        return [(pair_letter(letters, x, y), (s, t)) for x, s in lefts for y, t in rights]

    goal = (len(ones) - 1, len(others) - 1)
    return _least_told(pair_letters(letters), (0, 0), goal, moves)


def first_led(machine, letters, word):
    """The first word v such that the machine takes (word, v), or None."""
    found = _led(machine, letters, word, 1)
    return found[0] if len(found) > 0 else None


def second_led(machine, letters, word):
    """The second word v, in order, such that the machine takes (word, v), or None."""
    found = _led(machine, letters, word, 2)
    return found[1] if len(found) > 1 else None


def twice_led(machine, letters):
    """Some word u such that the machine takes (u, v) and (u, w) for two words v and w, or None."""
    rows = [_by_left(row, letters) for row in _with_blanks(least_machine(machine))]

    def moves(node):
        told = []
        for x in range(letters + 1):
            for y, s in rows[node[0]][x]:
                told.extend([(x, (s, t, node[2] or y != z)) for z, t in rows[node[1]][x]])
        return told

    last = len(rows) - 1
    way = way_to((0, 0, False), moves, (last, last, True))
    return None if way is None else tuple([x for x in way if x < letters])


def _with_blanks(machine):
    """The machine's table, with a letter more, for blanks behind the end of what is read, and
    a state more, the last one, to which this letter leads from states with bit 1 and itself."""
    done = len(machine)
    table = [row + (done if bit == 1 else None,) for row, bit in zip(machine.table, machine.ends)]
    table.append((None,) * machine.letters + (done,))
    return table


def _by_right(row, letters):
    """For each right side of a pair letter, the blank too, the left sides and their states."""
    return [listed(row[y::letters + 1]) for y in range(letters + 1)]


def _by_left(row, letters):
    """For each left side of a pair letter, the blank too, the right sides and their states."""
    size = letters + 1
    return [listed(row[x * size:x * size + size]) for x in range(size)]


def _least_told(letters, start, goal, moves):
    """The least machine that takes a word if moves over its letters, and then any number of
    moves over blanks, lead from start to goal."""
    nodes, net = drawn(start, moves)
    goals = [n for n in range(len(nodes)) if nodes[n] == goal]
    return least_machine(determined(letters, net, goals))


def _led(machine, letters, word, most):
    """The first words v, at most so many, such that the machine takes (word, v)."""
    if not is_word(word, letters):
        raise InvalidWord(word)
    endings = _endings(machine, letters, word)
    found = []
    ways = [((), 0)]
    met = {(0, 0): 1}
    while len(ways) > 0 and len(found) < most:
        place = min(len(ways[0][0]), len(word))
        found.extend([v for v, state in ways if endings[place][state] == 1])
        ways = _longer_ways(machine, letters, word, most, ways, met)
    return found[:most]


def _endings(machine, letters, word):
    """For each number of first letters of the word, all too, and each state, 1 if the rest of
    the word, over blanks, leads from it to a state with bit 1, else 0."""
    told = [list(machine.ends)]
    for x in reversed(word):
        column = pair_letter(letters, x, letters)
        nexts = [row[column] for row in machine.table]
        told.append([0 if t is None else told[-1][t] for t in nexts])
    return told[::-1]


def _longer_ways(machine, letters, word, most, ways, met):
    """The words that are one letter longer, with the states to which they lead beside the
    first letters of the word; met counts them by place and state."""
    size = len(ways[0][0])
    x = word[size] if size < len(word) else letters
    place = min(size + 1, len(word))
    longer = []
    for v, state in ways:
        for y in range(letters):
            t = machine.table[state][pair_letter(letters, x, y)]
            # Behind the word's end all goes on alike from a state, whatever led to it: later
            # words that lead to it are followed by later ones only.
            if t is not None and met.get((place, t), 0) < most:
                met[(place, t)] = met.get((place, t), 0) + 1
                longer.append((v + (y,), t))
    return longer
