"""Walking over many letters agrees with one led word after another."""

import unittest
from random import Random

from normalwords.judging import tells_places
from normalwords.walkers import Walker
from samples import GROUPS, PLACES, group_sample, places_sample, points


def random_word(random, letters, length):
    return tuple(random.randrange(letters) for _ in range(length))


def random_points(random):
    """What random permutations do to a few points, by first words or by long ones."""
    many = random.randint(1, 7)
    undo = random.choice(((0,), (1, 0), (0, 1), (1, 0, 2), (1, 0, 3, 2)))
    makers = [None] * len(undo)
    for x, y in enumerate(undo):
        if x < y:
            makers[x] = tuple(random.sample(range(many), many))
            makers[y] = tuple(makers[x].index(point) for point in range(many))
        elif x == y:
            one, other = random.randrange(many), random.randrange(many)
            turn = {one: other, other: one}
            makers[x] = tuple(turn.get(point, point) for point in range(many))
    return points(undo, tuple(makers), is_deep=random.random() < 0.5)


class Walks(unittest.TestCase):
    def check(self, telling, random, times):
        walker = Walker(telling)
        for _ in range(times):
            word = telling.walked((), random_word(random, telling.letters, random.randint(0, 30)))
            row = random_word(random, telling.letters, random.randint(0, 12))
            words = [word]
            for x in row:
                words.append(telling.led(words[-1], x))
                self.assertEqual(walker.led(words[-2], x), words[-1])
            self.assertEqual(walker.walked(word, row), words[-1])
            self.assertEqual(walker.chain(word, row), tuple(words))

    def test_groups(self):
        random = Random(221)
        for name in GROUPS:
            with self.subTest(name=name):
                self.check(group_sample(name).telling, random, 10)

    def test_places(self):
        random = Random(222)
        for name in PLACES:
            with self.subTest(name=name):
                self.check(places_sample(name).telling, random, 20)

    def test_random_points(self):
        random = Random(223)
        for _ in range(60):
            telling = random_points(random).telling
            self.assertTrue(tells_places(telling))
            self.check(telling, random, 5)

    def test_words_of_many_letters(self):
        random = Random(224)
        telling = group_sample("modular").telling
        walker = Walker(telling)
        row = random_word(random, 3, 400)
        held = walker.walked((), row)
        self.assertGreater(len(held), 40)
        self.assertEqual(walker.walked(held, tuple(telling.undo[x] for x in reversed(row))), ())


if __name__ == "__main__":
    unittest.main()
