"""How many words machines take."""

from normalwords.basics import is_number
from normalwords.errors import InvalidNumber
from normalwords.languages import least_machine, targets_of
from normalwords.nets import reached


def count(machine, length):
    """How many words of so many letters the machine takes."""
    if not is_number(length):
        raise InvalidNumber(length)
    return _counts(machine, length)[length]


def recursion(machine):
    """Integers c1, .., cs, s being the number of states of the least machine, such that from
    s letters on count(machine, n) is the sum of the ci times count(machine, n - i)."""
    # The matrix of the least machine's edges is a root of its characteristic polynomial, and
    # so the counts obey the latter; its coefficients come one by one (Faddeev, LeVerrier).
    follows = targets_of(least_machine(machine))
    told = []
    matrix = _one(len(follows))
    for n in range(1, len(follows) + 1):
        matrix = _moved(follows, matrix)
        trace = sum([matrix[s][s] for s in range(len(follows))])
        # The division leaves nothing over: the coefficients are integers.
        told.append(trace // n)
        for s in range(len(follows)):
            matrix[s][s] -= told[-1]
    return tuple(told)


def total(machine):
    """How many words the machine takes, None if not finitely many."""
    least = least_machine(machine)
    # A taken word with as many letters as there are states meets a state twice; what lies
    # between can be left out until the word has less than twice as many letters.
    told = _counts(least, 2 * len(least) - 1)
    if sum(told[len(least):]) > 0:
        return None
    return sum(told)


def growth(machine):
    """How fast the number of words of at most n letters grows."""
    if total(machine) is not None:
        return ("finite",)
    follows = targets_of(least_machine(machine))
    after = [reached(follows, targets) for targets in follows]
    for s, targets in enumerate(follows):
        if len([t for t in targets if t == s or after[t][s]]) > 1:
            return ("exponential",)
    return ("power", _most_loops(after))


def _counts(machine, length):
    """How many words of n letters the machine takes, for each n up to length."""
    follows = targets_of(machine)
    ways = list(machine.ends)
    told = [ways[0]]
    for _ in range(length):
        ways = [sum([ways[t] for t in targets]) for targets in follows]
        told.append(ways[0])
    return told


def _one(size):
    """The square matrix with 1 in its diagonal and 0 elsewhere."""
    return [[1 if s == t else 0 for t in range(size)] for s in range(size)]


def _moved(follows, matrix):
    """The matrix of the edges times the matrix."""
    told = []
    for targets in follows:
        row = [0] * len(matrix)
        for t in targets:
            row = [a + b for a, b in zip(row, matrix[t])]
        told.append(row)
    return told


def _most_loops(after):
    """The most loops that one way meets, where no two loops have a state in common; after[s]
    tells to which states words that are not empty lead from s."""
    firsts = [s for s in range(len(after)) if after[s][s] and not _is_met_before(after, s)]
    most = [0] * len(after)
    # A loop leads to more states than each loop behind it, so these come first.
    for _, s in sorted([(sum(after[s]), s) for s in firsts]):
        most[s] = 1 + max([most[t] for t in range(len(after)) if after[s][t]])
    return max(most)


def _is_met_before(after, s):
    """Whether the loop of s has a state with a lesser number."""
    return any([after[s][t] and after[t][s] for t in range(s)])
