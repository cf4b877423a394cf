"""Tellings of groups and of places, made without the package's own ways to make them, each
with a way to reckon the element of a word that has nothing to do with machines."""

from functools import lru_cache

from normalwords.groups import Group
from normalwords.languages import least_machine
from normalwords.machines import Machine
from normalwords.tellings import Telling
from reference import free_steps, pairing, taking

NO = None
# Words of the letter 0 alone, or of 1 alone; with words of 2 alone, or of 3 alone, behind them.
NUMBER_ROWS = [(1, 2), (1, NO), (NO, 2)]
PLANE_ROWS = [(1, 2, 3, 4), (1, NO, 3, 4), (NO, 2, 3, 4), (NO, NO, 3, NO), (NO, NO, NO, 4)]


def told(start, after, word):
    """To what the letters of the word lead start."""
    held = start
    for x in word:
        held = after(held, x)
    return held


class Sample:
    """A telling; one is the element of the empty word, after(element, x) that times x."""

    def __init__(self, telling, one, after):
        self.telling = telling
        self.one = one
        self.after = after

    def element(self, word):
        return told(self.one, self.after, word)


def drawn(letters, start, after, is_end):
    """The machine of the states that are met: after(state, letter) is a state or None."""
    numbers = {start: 0}
    states = [start]
    table = []
    for state in states:
        row = []
        for x in range(letters):
            target = after(state, x)
            if target is not None and target not in numbers:
                numbers[target] = len(states)
                states.append(target)
            row.append(None if target is None else numbers[target])
        table.append(tuple(row))
    return least_machine(Machine(letters, table, [1 if is_end(state) else 0 for state in states]))


def watching(words, start, left, right, goal, near=lambda held: True):
    """The pair machine of the pairs (u, v) that words takes whose letters, told one after the
    other by left and right, lead start to goal, near holding of all that is met."""
    letters = words.letters

    def state_after(state, x):
        if x == letters:
            return "end"
        return None if state == "end" else words.table[state][x]

    def after(state, row):
        a, b = divmod(row, letters + 1)
        s, t = state_after(state[0], a), state_after(state[1], b)
        if s is None or t is None:
            return None
        held = state[2] if a == letters else left(state[2], a)
        held = held if b == letters else right(held, b)
        return (s, t, held) if near(held) else None

    return drawn((letters + 1) ** 2 - 1, (0, 0, start), after, lambda state: state[2] == goal)


def differing(undo, words, makers, times, one, near):
    """The group with an element for each letter; no two words that are taken make one element.
    The steps watch by what element the left and the right word differ."""
    steps = [watching(words, one, lambda held, a: times(makers[undo[a]], held),
                      lambda held, b: times(held, makers[b]), maker, near) for maker in makers]
    return Sample(Telling(undo, words, steps), one, lambda held, x: times(held, makers[x]))


def finite_forms(letters, start, after, is_deep=False):
    """For each thing to which letters lead from start a word that does so: the first one, or,
    going deep, one along a way that goes on as long as it can."""
    forms = {start: ()}
    waiting = [start]
    while waiting:
        here = waiting[-1] if is_deep else waiting[0]
        nexts = [x for x in range(letters) if after(here, x) not in forms]
        if nexts:
            forms[after(here, nexts[0])] = forms[here] + (nexts[0],)
            waiting.append(after(here, nexts[0]))
        else:
            waiting.remove(here)
    return forms


def finite(undo, start, after, is_deep=False, words=None):
    """What letters do to finitely many things; where these are the elements of a group, and
    after is times, this is the group. The normal words are words, if they are told."""
    letters = len(undo)
    forms = finite_forms(letters, start, after, is_deep)
    if words is not None:
        forms = {told(start, after, word): word for word in words}
    steps = [least_machine(pairing(letters, [(u, forms[after(thing, x)]) for thing, u in forms.items()]))
             for x in range(letters)]
    return Sample(Telling(undo, least_machine(taking(letters, list(forms.values()))), steps), start, after)


def permuted(undo, makers, is_deep=False):
    """The group of the permutations made by makers."""
    def after(held, x):
        return tuple(makers[x][place] for place in held)
    return finite(undo, tuple(range(len(makers[0]))), after, is_deep)


def points(undo, makers, is_deep=False):
    """What permutations do to points, from the point 0 on."""
    return finite(undo, 0, lambda point, x: makers[x][point], is_deep)


def rounds(n, adds, undo, is_deep=False):
    """The numbers modulo n, the letters adding so much."""
    return finite(undo, 0, lambda held, x: (held + adds[x]) % n, is_deep)


def free(undo):
    """The group in which nothing holds but that letters undo one another."""
    def after(held, x):
        return held[:-1] if held and undo[held[-1]] == x else held + (x,)
    return Sample(Telling(undo, *free_steps(undo)), (), after)


def number_words(letters):
    return Machine(letters, [row + (NO,) * (letters - 2) for row in NUMBER_ROWS], [1, 1, 1])


def whole():
    """The whole numbers: 1 and -1."""
    return differing((1, 0), number_words(2), (1, -1), lambda a, b: a + b, 0, lambda a: abs(a) < 3)


def far():
    """The whole numbers with letters of 1, -1, 2 and -2; normal words have 1 alone, or -1."""
    return differing((1, 0, 3, 2), number_words(4), (1, -1, 2, -2), lambda a, b: a + b, 0, lambda a: abs(a) < 4)


def plane(is_turned=False):
    """Two letters that commute, and what undoes them; turned: the latter ones stand ahead."""
    rows = [row[2:] + row[:2] for row in PLANE_ROWS] if is_turned else PLANE_ROWS
    return differing((1, 0, 3, 2), Machine(4, rows, [1] * 5), ((1, 0), (-1, 0), (0, 1), (0, -1)),
                     lambda a, b: (a[0] + b[0], a[1] + b[1]), (0, 0), is_small)


def bottle():
    """Letters 0 and 2, and what undoes them; behind 2 the letter 0 is what undid it ahead."""
    return differing((1, 0, 3, 2), Machine(4, PLANE_ROWS, [1] * 5), ((1, 0), (-1, 0), (0, 1), (0, -1)),
                     lambda a, b: (a[0] + b[0] * (1, -1)[a[1] % 2], a[1] + b[1]), (0, 0), is_small)


def is_small(pair):
    return abs(pair[0]) + abs(pair[1]) < 4


def mirrored():
    """Places: the whole numbers, to which 0 and 1 add 1 and -1, while 2 makes -n of n."""
    words = number_words(3)
    adds = (1, -1)
    steps = [watching(words, 0, lambda held, a: held - adds[a], lambda held, b: held + adds[b], goal,
                      lambda held: abs(held) < 3) for goal in adds]
    turn = watching(words, 0, lambda held, a: held + adds[a], lambda held, b: held + adds[b], 0,
                    lambda held: held == 0)
    telling = Telling((1, 0, 2), words, steps + [turn])
    return Sample(telling, 0, lambda held, x: -held if x == 2 else held + adds[x])


def shortlex(undo, makers, times, one, radius):
    """The group with an element for each letter, its normal words being the first words of
    the elements; by what elements words differ is looked up within radius."""
    forms = {one: ()}
    for _ in range(radius):
        for held, word in list(forms.items()):
            for x, maker in enumerate(makers):
                forms.setdefault(times(held, maker), word + (x,))
    near = {one}
    for held, u in forms.items():
        for maker in makers:
            v = forms.get(times(held, maker))
            if v is not None:
                near |= differences(undo, makers, times, one, u, v)
    words = drawn(len(undo), frozenset([(one, "even")]),
                  lambda ways, a: ways_after(undo, makers, times, one, near, ways, a), lambda ways: True)
    return differing(undo, words, makers, times, one, lambda held: held in near)


def differences(undo, makers, times, one, u, v):
    """By what elements the beginnings of u and of v differ."""
    told = set()
    held = one
    for n in range(max(len(u), len(v))):
        held = times(makers[undo[u[n]]], held) if n < len(u) else held
        held = times(held, makers[v[n]]) if n < len(v) else held
        told.add(held)
    return told


def ways_after(undo, makers, times, one, near, ways, a):
    """How words v may stand beside a word, behind one letter more of it: by what element, and
    whether v is so far even with it, ahead or behind as tuples are compared, or ended; None if
    one that is ahead, or shorter, is the same element."""
    told = set()
    for held, state in ways:
        less = times(makers[undo[a]], held)
        told.add((less, "ended"))
        for b, maker in enumerate(makers):
            if state == "even":
                told.add((times(less, maker), "even" if a == b else "ahead" if b < a else "behind"))
            elif state != "ended":
                told.add((times(less, maker), state))
    told = frozenset((held, state) for held, state in told if held in near)
    return None if (one, "ahead") in told or (one, "ended") in told else told


def matrix_times(a, b):
    columns = list(zip(*b))
    return tuple(tuple(sum(x * y for x, y in zip(row, column)) for column in columns) for row in a)


def mirrors(table, radius):
    """The group of mirrors, each its own undo; table has, for each two, how many times both
    behind one another are nothing: 2, 3, 4 or 6, or 0 for never."""
    sides = {2: (0, 0), 3: (-1, -1), 4: (-1, -2), 6: (-1, -3), 0: (-2, -2)}
    many = len(table)
    makers = []
    for i in range(many):
        rows = [[1 if r == c else 0 for c in range(many)] for r in range(many)]
        for j in range(many):
            rows[i][j] -= 2 if i == j else sides[table[i][j]][0 if i < j else 1]
        makers.append(tuple(map(tuple, rows)))
    one = tuple(tuple(1 if r == c else 0 for c in range(many)) for r in range(many))
    return shortlex(tuple(range(many)), tuple(makers), matrix_times, one, radius)


def triangle(a, b, c, radius):
    return mirrors([[1, a, c], [a, 1, b], [c, b, 1]], radius)


def modular():
    """Letter 0 of order 2, letter 1 of order 3, which 2 undoes, freely joined: matrices, of
    which A and -A are one."""
    def times(a, b):
        told = matrix_times(a, b)
        return told if told > ((0, 0), (0, 0)) else tuple(tuple(-n for n in row) for row in told)
    return shortlex((0, 2, 1), (((0, 1), (-1, 0)), ((0, 1), (-1, 1)), ((1, -1), (1, 0))), times,
                    ((1, 0), (0, 1)), 6)


# Permutations of three and four points.
SWAP, OTHER_SWAP, TURN, BACK = (1, 0, 2), (0, 2, 1), (1, 2, 0), (2, 0, 1)

GROUPS = {
    "one": lambda: rounds(1, (0,), (0,)),
    "one, two letters": lambda: rounds(1, (0, 0), (1, 0)),
    "two": lambda: rounds(2, (1,), (0,)),
    "three, with nothing": lambda: rounds(3, (0, 1, 2), (0, 2, 1)),
    "seven, deep": lambda: rounds(7, (1, 6, 2, 5), (1, 0, 3, 2), is_deep=True),
    "twelve": lambda: rounds(12, (1, 11, 3, 9), (1, 0, 3, 2)),
    "swaps": lambda: permuted((0, 1), (SWAP, OTHER_SWAP)),
    "swap and turn": lambda: permuted((0, 2, 1), (SWAP, TURN, BACK)),
    "swaps, deep": lambda: permuted((0, 1), (SWAP, OTHER_SWAP), is_deep=True),
    "whole": whole,
    "far": far,
    "mirrors": lambda: free((0, 1)),
    "free": lambda: free((1, 0, 3, 2)),
    "free with a mirror": lambda: free((1, 0, 2)),
    "plane": plane,
    "plane, turned": lambda: plane(is_turned=True),
    "bottle": bottle,
    "modular": modular,
    "triangle 2 4 4": lambda: triangle(2, 4, 4, 8),
    "triangle 4 4 4": lambda: triangle(4, 4, 4, 8),
    "four mirrors": lambda: mirrors([[1, 2, 0, 2], [2, 1, 2, 0], [0, 2, 1, 2], [2, 0, 2, 1]], 5),
}

# Tellings of places that tell no group.
PLACES = {
    "mirrored": mirrored,
    "three points": lambda: points((0, 1), (SWAP, OTHER_SWAP)),
    "three points, turned": lambda: points((0, 2, 1), (OTHER_SWAP, TURN, BACK)),
    "four points, deep": lambda: points((0, 2, 1), ((1, 0, 2, 3), (1, 2, 3, 0), (3, 0, 1, 2)), is_deep=True),
    "six points": lambda: points((1, 0, 2), ((1, 2, 3, 4, 5, 0), (5, 0, 1, 2, 3, 4), (0, 2, 1, 3, 4, 5))),
}


@lru_cache(maxsize=None)
def group_sample(name):
    return GROUPS[name]()


@lru_cache(maxsize=None)
def places_sample(name):
    return PLACES[name]()


@lru_cache(maxsize=None)
def group(name):
    return Group(group_sample(name).telling)
