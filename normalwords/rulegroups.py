"""Groups of complete rules, the last forms being the normal words."""

from normalwords.basics import is_number
from normalwords.errors import InvalidNumber, Undefined
from normalwords.groups import Group
from normalwords.languages import first_without, least_machine, listed
from normalwords.machines import Machine
from normalwords.nets import drawn, drawn_machine, table_of
from normalwords.pairs import pair_letter, pair_letters
from normalwords.relations import firsts
from normalwords.rewriting import checked_exchanges, last_exchanged, two_forms
from normalwords.tellings import Telling
from normalwords.words import undone

# The state of a side of which all is read.
ENDED = -1


class Differences:
    """The differences of words that are met where letters lead last forms to one another: the
    last forms of undone(undo, p) with q behind, p and q being as many first letters of both."""

    def __init__(self, undo, pairs):
        self.undo = undo
        self.pairs = pairs
        self.met = {(): True}
        self._known = {}

    def last(self, word):
        """The last form of a word."""
        return last_exchanged(self.pairs, word)

    def after(self, here, left, right):
        """The difference behind left and right, words of at most one letter, written on behind
        the words that differ by here."""
        key = (here, left, right)
        if key not in self._known:
            self._known[key] = self.last(undone(self.undo, left) + here + right)
        return self._known[key]

    def add_way(self, u, v):
        """Adds all differences that are met along u and v; the most letters that one of them has."""
        here = ()
        most = 0
        for n in range(max(len(u), len(v))):
            here = self.after(here, u[n:n + 1], v[n:n + 1])
            self.met[here] = True
            most = max(most, len(here))
        return most


def is_complete(undo, exchanges):
    """Whether each word has just one last form."""
    return two_forms(undo, exchanges) is None


def rule_group(undo, exchanges, radius):
    """The group in which two words are equal if they have the same last form; None if some
    differences of last forms have more than radius letters."""
    pairs = checked_exchanges(undo, exchanges)
    if not is_number(radius):
        raise InvalidNumber(radius)
    if not is_complete(undo, exchanges):
        raise Undefined("forms")
    words = _last_forms(len(undo), pairs)
    differences = Differences(undo, pairs)
    while True:
        steps = _steps(words, differences)
        lost = _lost_ways(words, steps, differences)
        if len(lost) == 0:
            return Group(Telling(undo, words, steps))
        # Each way that is lost meets a new difference, and few have so few letters.
        for u, v in lost:
            if differences.add_way(u, v) > radius:
                return None


def _last_forms(letters, pairs):
    """The least machine that takes the words in which no left side stands."""
    lefts = [left for left, _ in pairs]
    beginnings = {left[:n]: True for left in lefts for n in range(len(left))}

    def moves(here):
        longer = [here + (x,) for x in range(letters)]
        return [(word[-1], _longest_end(word, beginnings)) for word in longer if not _is_left(word, lefts)]

    return least_machine(drawn_machine(letters, (), moves, lambda here: True))


def _is_left(word, lefts):
    """Whether the word ends with a left side."""
    return any([word[-len(left):] == left for left in lefts])


def _longest_end(word, beginnings):
    """The longest end of the word that is one of the beginnings of left sides."""
    n = 0
    while word[n:] not in beginnings:
        n += 1
    return word[n:]


def _steps(words, differences):
    """For each letter x the least pair machine that takes the pairs of last forms u, and v of u
    with x behind, along which no difference is met but those that are told."""
    letters = words.letters

    def moves(node):
        s, t, here = node
        told = []
        for x, left, after_s in _moves_of_side(words, s):
            for y, right, after_t in _moves_of_side(words, t):
                there = differences.after(here, left, right)
                if there in differences.met and left + right != ():
                    told.append((pair_letter(letters, x, y), (after_s, after_t, there)))
        return told

    nodes, net = drawn((0, 0, ()), moves)
    many = pair_letters(letters)
    table = table_of(many, net)
    goals = [differences.last((x,)) for x in range(letters)]
    return [least_machine(Machine(many, table, [1 if node[2] == goal else 0 for node in nodes])) for goal in goals]


def _moves_of_side(words, state):
    """The letters that one side can read, and the blank: each with the word that is read, and
    the state this leads to."""
    # Each beginning of a last form is one, so a side may end wherever it is.
    blank = (words.letters, (), ENDED)
    if state == ENDED:
        return [blank]
    return [(x, (x,), t) for x, t in listed(words.table[state])] + [blank]


def _lost_ways(words, steps, differences):
    """For each letter x the first last form u that its step leads nowhere, if there is one, and
    the last form of u with x behind."""
    told = []
    for x, step in enumerate(steps):
        u = first_without(words, firsts(step, words.letters))
        if u is not None:
            told.append((u, differences.last(u + (x,))))
    return told
