"""Points 12 and 13: what a telling tells, and witnesses (with points 1, 2 and 4 as far as they
speak of these)."""

import unittest
from random import Random

from normalwords.faults import moved_by
from normalwords.judging import is_witness, tells_group, tells_places, witness
from normalwords.machines import Machine
from normalwords.tellings import Telling
from normalwords.walkers import Walker
from normalwords.words import undone
from reference import (
    all_words, beside, no_words, pairing, random_machine, takes, taking, words_up_to)
from samples import (
    GROUPS, OTHER_SWAP, PLACES, SWAP, TURN, BACK, finite, group_sample, places_sample, points)

KINDS = ("empty", "beginning", "row", "stray", "none", "two", "kept", "short", "apart")
FREE = group_sample("free").telling
WHOLE = group_sample("whole").telling
MIRRORED = places_sample("mirrored").telling


def with_words(telling, words):
    return Telling(telling.undo, words, telling.steps)


def with_step(telling, x, step):
    steps = list(telling.steps)
    steps[x] = step
    return Telling(telling.undo, telling.words, steps)


def finite_telling(undo, words, pairs):
    """A telling of words and, for each letter, pairs of words."""
    k = len(undo)
    return Telling(undo, taking(k, words), [pairing(k, told) for told in pairs])


def plain_kinds(telling, length):
    """The kinds but "apart" of which there is a witness with words of at most so many letters."""
    k = telling.letters
    words = words_up_to(k, length)
    normal = {word for word in words if takes(telling.words, word)}
    pairs = [{(u, v) for u in words for v in words if takes(step, beside(k, u, v))} for step in telling.steps]
    rows = {beside(k, u, v) for u in words for v in words}
    kinds = set() if () in normal else {"empty"}
    if any(word[:n] not in normal for word in normal for n in range(1, len(word))):
        kinds.add("beginning")
    for x, step in enumerate(telling.steps):
        if k < 3 and any(takes(step, row) for row in words_up_to(step.letters, min(length, 3)) if row not in rows):
            kinds.add("row")
        if any(u not in normal or v not in normal for u, v in pairs[x]):
            kinds.add("stray")
        firsts = [u for u, _ in pairs[x]]
        if len(set(firsts)) < len(firsts):
            kinds.add("two")
        if any((v, u) not in pairs[telling.undo[x]] for u, v in pairs[x]):
            kinds.add("kept")
        if any(u + (x,) in normal and (u, u + (x,)) not in pairs[x] for u in normal):
            kinds.add("short")
        # Of endless machines this is told only as far as the words that are looked at.
        if any(u not in firsts for u in normal if len(u) + 2 <= length):
            kinds.add("none")
    return kinds


def is_regular(telling, words):
    """Whether in a finite telling of places, with these normal words, no word leads some of them
    to themselves and others elsewhere: whether as many permutations come about."""
    places = {word: n for n, word in enumerate(words)}
    makers = [tuple(places[telling.led(word, x)] for word in words) for x in range(telling.letters)]
    met = [tuple(range(len(words)))]
    for held in met:
        for maker in makers:
            after = tuple(maker[place] for place in held)
            if after not in met:
                met.append(after)
            if len(met) > len(words):
                return False
    return True


def broken():
    """For each kind of witness a telling against which there is one."""
    undo = (1, 0)
    up, down = WHOLE.steps
    # From the start the row (0, blank), (0, 0) leads to the end, too.
    last = up.ends.index(1)
    astray = [tuple(len(up) if s == 0 and n == 2 else t for n, t in enumerate(row)) for s, row in enumerate(up.table)]
    return {
        "empty": with_words(WHOLE, Machine(2, WHOLE.words.table, (0, 1, 1))),
        "beginning": with_words(WHOLE, Machine(2, [(1, None), (2, None), (2, None)], (1, 0, 1))),
        "row": with_step(WHOLE, 0, Machine(8, astray + [(last,) + (None,) * 7], up.ends + (0,))),
        "stray": with_words(WHOLE, Machine(2, [(1, None), (1, None)], (1, 1))),
        "none": finite_telling(undo, [(), (0,)], [[((), (0,))], [((0,), ())]]),
        "two": finite_telling((0,), [(), (0,)], [[((), ()), ((), (0,)), ((0,), ())]]),
        "kept": finite_telling((0, 1), [(), (0,), (0, 0)],
                               [[((), (0,)), ((0,), (0, 0)), ((0, 0), ())], [(w, w) for w in ((), (0,), (0, 0))]]),
        "short": Telling(undo, WHOLE.words, [down, up]),
        "apart": MIRRORED,
    }


class Kinds(unittest.TestCase):
    def test_each_kind(self):
        for kind, telling in broken().items():
            with self.subTest(kind=kind):
                found = witness(telling)
                self.assertIn(kind, plain_kinds(telling, 3) or {"apart"})
                self.assertIn(found[0], plain_kinds(telling, 3) or {"apart"})
                self.assertIs(is_witness(telling, found), True)
                self.assertIs(tells_group(telling), False)
                self.assertIs(tells_places(telling), kind == "apart")

    def test_only_one_kind(self):
        # Here there are no witnesses of other kinds, so this one must be found.
        three = [(), (0,), (1,)]
        both = [(u, v) for u in ((), (0,)) for v in ((), (0,))]
        swap = [((), ()), ((0,), (1,)), ((1,), (0,))]
        turn = [((), (0,)), ((0,), (1,)), ((1,), ())]
        back = [(v, u) for u, v in turn]
        tellings = {
            "empty": finite_telling((0,), [(0,)], [[((0,), (0,))]]),
            "beginning": finite_telling((0,), [(), (0, 0)], [[((), (0, 0)), ((0, 0), ())]]),
            "stray": finite_telling((0,), [()], [[((), ()), ((0,), (0,))]]),
            "none": finite_telling((0,), [()], [[]]),
            "two": finite_telling((0, 1), [(), (0,)], [[((), (0,)), ((0,), ())], both]),
            "kept": finite_telling((0, 1, 2), three, [turn, back, swap]),
            "short": finite_telling((1, 0, 2), three, [back, turn, swap]),
            "apart": finite_telling((1, 0, 2), [(), (0,), (1,)], [turn, back, swap]),
        }
        for kind, telling in tellings.items():
            with self.subTest(kind=kind):
                self.assertEqual(plain_kinds(telling, 3) or {"apart"}, {kind})
                found = witness(telling)
                self.assertEqual(found[0], kind)
                self.assertTrue(is_witness(telling, found))

    def test_right_tellings(self):
        for name in GROUPS:
            with self.subTest(name=name):
                telling = group_sample(name).telling
                self.assertIsNone(witness(telling))
                self.assertIs(tells_group(telling), True)
                self.assertIs(tells_places(telling), True)

    def test_places(self):
        for name in PLACES:
            with self.subTest(name=name):
                telling = places_sample(name).telling
                found = witness(telling)
                self.assertEqual(found[0], "apart")
                self.assertTrue(is_witness(telling, found))
                self.assertNotEqual(found[4][0], ())
                self.assertIs(tells_group(telling), False)
                self.assertIs(tells_places(telling), True)

    def test_a_letter_that_leads_alike_to_what_it_undoes(self):
        # Letter 2 leads as 0 does, but undoes itself: in no group does it.
        steps = [pairing(3, [((), (0,)), ((0,), (1,)), ((1,), ())])] * 3
        steps[1] = pairing(3, [((0,), ()), ((1,), (0,)), ((), (1,))])
        found = witness(Telling((1, 0, 2), taking(3, [(), (0,), (1,)]), steps))
        self.assertEqual(found[:2], ("kept", 2))

    def test_by_name(self):
        self.assertIsNone(witness(telling=WHOLE))
        self.assertTrue(tells_group(telling=WHOLE) and tells_places(telling=WHOLE))
        self.assertTrue(is_witness(telling=MIRRORED, value=witness(MIRRORED)))


class ManyTellings(unittest.TestCase):
    def check(self, telling, length):
        found = witness(telling)
        kinds = plain_kinds(telling, length)
        if found is not None:
            self.assertTrue(is_witness(telling, found), found)
            self.assertIn(found[0], KINDS)
        if kinds:
            self.assertIsNotNone(found)
            self.assertNotEqual(found[0], "apart")
        self.assertEqual(tells_group(telling), found is None)
        self.assertEqual(tells_places(telling), found is None or found[0] == "apart")
        if found is not None and found[0] == "apart":
            self.assertNotEqual(found[4][0], ())
        return found

    def test_finite_tellings_with_a_change(self):
        random = Random(71)
        told = []
        bases = [finite((1, 0), 0, lambda n, x: (n + (1, -1)[x]) % 3), finite((0, 1), 0, lambda n, x: n ^ (1 + x)),
                 points((0, 1), (SWAP, OTHER_SWAP)), points((1, 0), (TURN, BACK)), finite((0,), 0, lambda n, x: 0)]
        for _ in range(150):
            base = random.choice(bases).telling
            k = base.letters
            words = [word for word in words_up_to(k, 3) if takes(base.words, word)]
            pairs = [[(u, base.led(u, x)) for u in words] for x in range(k)]
            for _ in range(random.choice((1, 1, 2))):
                change = random.randrange(4)
                x = random.randrange(k)
                other = random.choice(words_up_to(k, 2))
                if change == 0:
                    words = [word for word in words if word != other] or [other]
                elif change == 1:
                    words = words + [other]
                elif change == 2 and pairs[x]:
                    pairs[x].remove(random.choice(pairs[x]))
                else:
                    pairs[x].append((random.choice(words), other))
            telling = finite_telling(base.undo, sorted(set(words)), [sorted(set(part)) for part in pairs])
            found = self.check(telling, 3)
            told.append(found and found[0])
            if not plain_kinds(telling, 5) and found:
                self.assertEqual(found[0], "apart")
        self.assertGreaterEqual(len(set(told)), 7)

    def test_permutations(self):
        # All that letters do to few points: places, and a group exactly if as many permutations
        # come about as there are points.
        random = Random(72)
        groups = 0
        for _ in range(80):
            many = random.randint(1, 6)
            if random.random() < 0.5:
                turn = random.sample(range(many), many)
                swap = [n ^ 1 if n ^ 1 < many else n for n in range(many)]
            else:
                turn = [(n + 1) % many for n in range(many)]
                swap = [(n + many // 2) % many if many % 2 == 0 else n for n in range(many)]
            back = [turn.index(n) for n in range(many)]
            telling = points((1, 0, 2), (turn, back, swap), is_deep=random.random() < 0.3).telling
            words = [word for word in words_up_to(3, 6) if takes(telling.words, word)]
            is_group = is_regular(telling, words)
            found = witness(telling)
            self.assertTrue(tells_places(telling))
            self.assertEqual(tells_group(telling), is_group)
            self.assertEqual(found is None, is_group)
            if found is not None:
                self.assertEqual(found[0], "apart")
                self.assertTrue(is_witness(telling, found))
                self.assertNotEqual(found[4][0], ())
            groups += is_group
        self.assertTrue(20 < groups < 70)

    def test_endless_tellings_with_a_change(self):
        random = Random(73)
        told = []
        for _ in range(120):
            base = random.choice([WHOLE, MIRRORED, group_sample("mirrors").telling])
            place = random.randrange(base.letters + 1)
            machine = base.words if place == base.letters else base.steps[place]
            rows = [list(row) for row in machine.table]
            ends = list(machine.ends)
            state = random.randrange(len(rows))
            if random.random() < 0.3:
                ends[state] = 1 - ends[state]
            else:
                taken = [n for n, t in enumerate(rows[state]) if t is not None] or [0]
                letter = random.choice(taken + [random.randrange(machine.letters)])
                rows[state][letter] = random.choice([None] + list(range(len(rows))))
            changed = Machine(machine.letters, [tuple(row) for row in rows], ends)
            telling = with_words(base, changed) if place == base.letters else with_step(base, place, changed)
            found = self.check(telling, 4 if base.letters == 2 else 3)
            told.append(found and found[0])
        self.assertGreaterEqual(len(set(told)), 6)

    def test_random_machines(self):
        random = Random(74)
        for _ in range(40):
            k = random.randint(1, 2)
            undo = random.choice([(0, 1), (1, 0)]) if k == 2 else (0,)
            steps = [random_machine(random, (k + 1) ** 2 - 1, random.randint(1, 6), 0.6) for _ in range(k)]
            self.check(Telling(undo, random_machine(random, k, random.randint(1, 5), 0.2), steps), 3)


class Values(unittest.TestCase):
    def right_and_wrong(self, telling, right, wrong):
        for value in right:
            self.assertIs(is_witness(telling, value), True, value)
        for value in wrong:
            self.assertIs(is_witness(telling, value), False, value)

    def test_empty(self):
        telling = finite_telling((0,), [(0,)], [[((0,), (0,))]])
        self.right_and_wrong(telling, [("empty",)], [("empty", ()), ["empty"], "empty", ("Empty",), (("empty",),)])
        self.right_and_wrong(WHOLE, [], [("empty",)])

    def test_beginning(self):
        telling = with_words(WHOLE, taking(2, [(), (0,), (1, 0, 1), (0, 0, 0)]))
        right = [("beginning", (1, 0, 1), 1), ("beginning", (1, 0, 1), 2), ("beginning", (0, 0, 0), 2)]
        self.right_and_wrong(telling, right, [
            ("beginning", (1, 0, 1), 0), ("beginning", (1, 0, 1), 3), ("beginning", (0, 0, 0), 1),
            ("beginning", (1, 0, 1), True), ("beginning", (1, 0, 1), -1), ("beginning", (1, 0, 1), None),
            ("beginning", [1, 0, 1], 1), ("beginning", (1, 0), 1), ("beginning", (1, 0, 2), 1),
            ("beginning", (1, False, 1), 1), ("beginning", (1, 0, 1)), ("beginning", (1, 0, 1), 1, 1),
            ["beginning", (1, 0, 1), 1], ("beginning", (1, 0, 1), "1"), ("beginning", (1, 0, 1), 10 ** 20)])
        # That the empty word is not taken is of another kind.
        self.right_and_wrong(with_words(WHOLE, taking(2, [(0,), (0, 1)])), [], [("beginning", (0, 1), 0)])

    def test_row(self):
        row, right_row = (2, 1), (1, 2)
        telling = with_step(WHOLE, 0, taking(8, [row, right_row]))
        self.right_and_wrong(telling, [("row", 0, row)], [
            ("row", 1, row), ("row", 0, right_row), ("row", 0, [2, 1]), ("row", False, row), ("row", 2, row),
            ("row", -1, row), ("row", 0, (2, True)), ("row", 0, (2, 8)), ("row", 0, (2, 2, 1)), ("row", 0),
            ("row", 0, row, row), ("row", None, row), ("row", (0,), row)])

    def test_stray(self):
        telling = with_step(WHOLE, 1, pairing(2, [((0, 1), ()), ((), (1, 0)), ((0,), ()), ((0, 1), (1, 0))]))
        right = [("stray", 1, (0, 1), ()), ("stray", 1, (), (1, 0)), ("stray", 1, (0, 1), (1, 0))]
        self.right_and_wrong(telling, right, [
            ("stray", 1, (0,), ()), ("stray", 0, (0, 1), ()), ("stray", True, (0, 1), ()), ("stray", 1, (1, 0), ()),
            ("stray", 1, [0, 1], ()), ("stray", 1, (0, 1), []), ("stray", 1, (0, 2), ()), ("stray", 1, (0, 1)),
            ("stray", 1, (0, 1), (), ()), ("stray", 2, (0, 1), ()), ("stray", 1, (0, True), ()),
            ("stray", 1, None, ())])

    def test_none(self):
        telling = with_step(WHOLE, 1, pairing(2, [((0,), ()), ((), (1,))]))
        self.right_and_wrong(telling, [("none", 1, (1,)), ("none", 1, (0,) * 40)], [
            ("none", 1, (0,)), ("none", 1, ()), ("none", 0, (1,)), ("none", 1, (0, 1)), ("none", 1, [1]),
            ("none", True, (1,)), ("none", 2, (1,)), ("none", 1, (True,)), ("none", 1), ("none", 1, (1,), ()),
            ("none", 1, 1), ("none", -1, (1,))])

    def test_two(self):
        telling = with_step(WHOLE, 0, pairing(2, [((), (0,)), ((), (1,)), ((), (0, 0)), ((0,), ())]))
        right = [("two", 0, (), (0,), (1,)), ("two", 0, (), (0,), (0, 0)), ("two", 0, (), (1,), (0, 0))]
        self.right_and_wrong(telling, right, [
            ("two", 0, (), (1,), (0,)), ("two", 0, (), (0,), (0,)), ("two", 0, (), (0, 0), (1,)),
            ("two", 1, (), (0,), (1,)), ("two", False, (), (0,), (1,)), ("two", 0, (), (0,), (1, 1)),
            ("two", 0, [], (0,), (1,)), ("two", 0, (), [0], (1,)), ("two", 0, (), (0,), [1]), ("two", 0, (), (0,)),
            ("two", 0, (), (0,), (1,), (0, 0)), ("two", 0, (0,), (0,), (1,)), ("two", 2, (), (0,), (1,))])

    def test_kept(self):
        telling = with_step(WHOLE, 1, pairing(2, [((0,), ()), ((), (1,))]))
        right = [("kept", 0, (0,), (0, 0)), ("kept", 0, (1, 1), (1,))]
        self.right_and_wrong(telling, right, [
            ("kept", 0, (), (0,)), ("kept", 0, (1,), ()), ("kept", 1, (0,), ()), ("kept", 0, (0, 0), (0,)),
            ("kept", 0, (0,), (1,)), ("kept", 0, [0], (0, 0)), ("kept", 0, (0,), [0, 0]), ("kept", False, (0,), (0, 0)),
            ("kept", 0, (0,)), ("kept", 0, (0,), (0, 0), ()), ("kept", 0, (False,), (0, 0)), ("kept", 4, (0,), (0, 0))])

    def test_short(self):
        telling = with_step(WHOLE, 0, pairing(2, [((0,), (0, 0)), ((1,), ())]))
        self.right_and_wrong(telling, [("short", 0, ()), ("short", 0, (0, 0))], [
            ("short", 0, (0,)), ("short", 0, (1,)), ("short", 1, ()), ("short", 0, (0, 1)), ("short", 0, []),
            ("short", False, ()), ("short", 2, ()), ("short", 0), ("short", 0, (), ()), ("short", 0, (True,))])
        # Both must be normal.
        gapped = Telling((1, 0), taking(2, [(), (0, 1), (1,)]), [no_words(8)] * 2)
        self.right_and_wrong(gapped, [("short", 1, ())], [("short", 1, (0,)), ("short", 0, ())])

    def test_apart(self):
        # 2 leads n to -n: () to itself, but 1 to -1.
        right = [("apart", 2, (), (), ((0,), (1,))), ("apart", 2, (), (), ((1, 1), (0, 0))),
                 ("apart", 2, (0,), (1,), ((0,), (0, 0), (1, 1), (1,)))]
        wrong = [
            ("apart", 2, (), (), ((), ())), ("apart", 2, (), (), ((0,),)), ("apart", 2, (), (), ()),
            ("apart", 2, (), (), ((0,), (1,), (0,))), ("apart", 2, (), (), ((0,), (0,))),
            ("apart", 2, (), (), ((0,), (1, 1))), ("apart", 2, (), (), [(0,), (1,)]), ("apart", 2, (), (), ([0], (1,))),
            ("apart", 2, (), (), ((0,), [1])), ("apart", 2, (), (), ((0,), (True,))), ("apart", 2, (), (), (0, 1)),
            ("apart", 2, [], (), ((0,), (1,))), ("apart", 2, (), (0,), ((0,), (1,))), ("apart", 2, (), ()),
            ("apart", 2, (), (), ((0,), (1,)), ()), ("apart", True, (), (), ((0,), (1,))),
            ("apart", 0, (), (0,), ((0,), (0, 0), (0,))), ("apart", 0, (), (0,), ((0,), (0, 0), (1,))),
            ("apart", 3, (), (), ((0,), (1,))), ("apart", 2, (), (), None),
            ("apart", 2, (2,), (2,), ((0,), (1,), (0,), (1,)))]
        self.right_and_wrong(MIRRORED, right, wrong)

    def test_apart_needs_normal_words(self):
        stray = Telling((0,), taking(1, [(), (0,)]), [pairing(1, [((), ()), ((0,), (0, 0)), ((), (0,))])])
        self.right_and_wrong(stray, [("apart", 0, (), (), ((), (0,)))], [("apart", 0, (), (), ((0,), (0, 0)))])
        # The pair itself need not be normal.
        far = Telling((0,), taking(1, [(), (0,)]), [pairing(1, [((0, 0), (0, 0)), ((), (0,)), ((0,), ())])])
        chain = ((), (0,), (), (0,), (), (0,))
        self.right_and_wrong(far, [("apart", 0, (0, 0), (0, 0), chain)], [("apart", 0, (0, 0), (0, 0), chain[1:])])

    def test_other_values(self):
        nested = ()
        for _ in range(9):
            nested = (nested, [nested])
        values = [None, True, 0, "", "empty", "apart", [], (), ((),), (None,), (0,), ([],), (WHOLE,), WHOLE, FREE.words,
                  nested, [nested], ("apart", nested), ("apart", 2, nested, nested, nested), ("none", nested, nested),
                  ("row", 0, nested), ("two", 0, nested, (), ()), ("", 0), ("kind", 0, ()), (("none",), 0, ()),
                  (True, 0, ()), ("beginning", WHOLE, 1), ("short", WHOLE.words, ()), ("kept", 0, "", ""),
                  ("none", "0", ()), ("two", 0, "", "0", "1")]
        for telling in list(broken().values()) + [WHOLE, FREE]:
            self.right_and_wrong(telling, [], values)


class MovedBy(unittest.TestCase):
    def test_a_word_that_is_its_ring_turned(self):
        # Letter 0 leads six points around, 2 changes the places of 1 and 2: so 2 between words
        # that lead three points on, and back, changes those of 4 and 5.
        sample = places_sample("six points")
        walker = Walker(sample.telling)
        for turn in ((), (0,), (0, 0, 0), (1,), (1, 1), (0, 2, 0), (2, 0, 0, 0)):
            word = turn + (2,) + undone((1, 0, 2), turn)
            for moved in ((0,), (0, 0)):
                self.assertNotEqual(walker.led(moved, 2), moved)
                start = moved_by((1, 0, 2), walker, word, (2,), moved)
                self.assertTrue(sample.telling.words.takes(start))
                self.assertNotEqual(sample.element(start + word), sample.element(start))


class Limits(unittest.TestCase):
    def test_twelve_states(self):
        telling = group_sample("triangle 4 4 4").telling
        self.assertEqual(len(telling.words), 12)
        self.assertIsNone(witness(telling))
        # A step without one of its edges, and one with an edge more.
        for x, step in enumerate(telling.steps):
            for state in (0, len(step) // 2, len(step) - 2):
                edges = [n for n, t in enumerate(step.table[state]) if t is not None]
                row = list(step.table[state])
                row[edges[-1]] = None
                table = step.table[:state] + (tuple(row),) + step.table[state + 1:]
                changed = with_step(telling, x, Machine(step.letters, table, step.ends))
                found = witness(changed)
                self.assertNotEqual(found[0], "apart")
                self.assertTrue(is_witness(changed, found))
                self.assertFalse(tells_places(changed))

    def test_steps_of_forty_states(self):
        random = Random(75)
        for gaps in (0.9, 0.95):
            steps = [random_machine(random, 24, 40, gaps) for _ in range(4)]
            telling = Telling((1, 0, 3, 2), random_machine(random, 4, 12, 0.2), steps)
            found = witness(telling)
            self.assertTrue(is_witness(telling, found))
            self.assertFalse(tells_group(telling) or tells_places(telling))

    def test_all_pairs_and_nothing(self):
        for words in (all_words(4), no_words(4)):
            for step in (all_words(24), no_words(24)):
                telling = Telling((1, 0, 3, 2), words, [step] * 4)
                self.assertTrue(is_witness(telling, witness(telling)))

    def test_words_that_wander(self):
        # All words are normal, and each letter leads each one to itself.
        k = 2
        stay = Machine(8, [tuple(0 if n in (0, 4) else None for n in range(8))], [1])
        telling = Telling((1, 0), all_words(k), [stay, stay])
        found = witness(telling)
        self.assertEqual(found[0], "short")
        self.assertTrue(is_witness(telling, found))


class Basics(unittest.TestCase):
    def test_arguments_stay_and_results_are_equal(self):
        for telling in list(broken().values()) + [WHOLE]:
            copy = Telling(telling.undo, telling.words, telling.steps)
            self.assertEqual(witness(telling), witness(copy))
            self.assertEqual(telling, copy)
            value = list(witness(telling) or ())
            is_witness(telling, value)
            self.assertEqual(value, list(witness(telling) or ()))

    def test_kinds_of_results(self):
        for telling in list(broken().values()):
            found = witness(telling)
            self.assertIsInstance(found, tuple)
            self.assertTrue(all(isinstance(part, (str, int, tuple)) for part in found))


if __name__ == "__main__":
    unittest.main()
