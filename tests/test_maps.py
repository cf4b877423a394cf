"""Point 17: maps (with points 1, 2 and 4 as far as they speak of these)."""

import unittest
from random import Random

from normalwords.edgewords import edge_words
from normalwords.errors import InvalidImages, InvalidWord, Undefined
from normalwords.groups import Group
from normalwords.maps import image, is_map, map_fault
from reference import ODD_VALUES, words_up_to
from samples import GROUPS, group, group_sample


def put_in(images, word):
    return tuple(x for letter in word for x in images[letter])


def plain_fault(one, other, images):
    undo = one.telling.undo
    for word in [(x, undo[x]) for x in range(len(undo))] + list(edge_words(one.telling)):
        if other.element(put_in(images, word)) != other.one:
            return word
    return None


class Faults(unittest.TestCase):
    def check(self, one, other, images, right):
        self.assertEqual(map_fault(group(one), group(other), images), right)
        self.assertIs(is_map(group(one), group(other), images), right is None)

    def test_a_pair_that_is_not_nothing(self):
        self.check("whole", "whole", ((0,), (0,)), (0, 1))
        self.check("free", "whole", ((0,), (1,), (0, 0), (1,)), (2, 3))
        self.check("two", "whole", ((0,),), (0, 0))
        # Ahead of what the edge words tell.
        self.check("plane", "free", ((0,), (1,), (2,), (2,)), (2, 3))
        self.check("three, with nothing", "whole", ((0,), (0,), (1,)), (0, 0))

    def test_an_edge_word(self):
        self.check("plane", "free", ((0,), (1,), (2,), (3,)), (0, 2, 1, 3))
        self.check("plane", "swaps", ((0, 1), (1, 0), (0,), (0,)), (0, 2, 1, 3))
        self.check("modular", "whole", ((), (0,), (1,)), (1, 1, 1))
        self.check("one, two letters", "whole", ((0,), (1,)), (0,))
        # The first of several.
        self.check("three, with nothing", "whole", ((0, 0, 1, 1), (0,), (1,)), (1, 1, 1))
        self.check("twelve", "plane", ((0,), (1,), (2,), (3,)), (0, 0, 0, 3))
        self.check("twelve", "whole", ((0,), (1,), (0, 0, 0), (1, 1, 1)), (2, 2, 2, 2))

    def test_maps(self):
        self.check("free", "swaps", ((0,), (0,), (1,), (1,)), None)
        self.check("modular", "swap and turn", ((0,), (1,), (2,)), None)
        self.check("plane", "whole", ((0, 0), (1, 1), (1,), (0,)), None)
        self.check("plane", "plane", ((2,), (3,), (1, 0, 1), (0, 2, 3)), None)
        self.check("bottle", "mirrors", ((), (), (0,), (0,)), None)
        self.check("far", "whole", ((0,), (1,), (0, 0), (1, 1)), None)
        self.check("whole", "far", ((3,), (2,)), None)
        self.check("twelve", "one", ((), (0,), (0, 0), ()), None)
        self.check("triangle 2 4 4", "two", ((0,), (0,), (0,)), None)
        self.assertIsNone(map_fault(group=group("two"), other=group("two"), images=((0,),)))
        self.assertIs(is_map(group=group("two"), other=group("two"), images=((),)), True)

    def test_the_letters_themselves(self):
        for name in GROUPS:
            one = group(name)
            images = tuple((x,) for x in range(one.telling.letters))
            self.assertIsNone(map_fault(one, one, images))

    def test_random_images(self):
        random = Random(81)
        met = []
        for _ in range(300):
            names = random.choices(list(GROUPS), k=2)
            one, other = [group_sample(name) for name in names]
            letters = other.telling.letters
            images = [tuple(random.randrange(letters) for _ in range(random.randint(0, 3))) for _ in one.telling.undo]
            for x, y in enumerate(one.telling.undo):
                if random.random() < 0.8 and x < y:
                    images[y] = tuple(other.telling.undo[z] for z in images[x][::-1])
            right = plain_fault(one, other, images)
            self.assertEqual(map_fault(group(names[0]), group(names[1]), tuple(images)), right)
            met.append(right and len(right))
        self.assertGreater(met.count(None), 20)
        self.assertGreater(len(set(met)), 3)

    def test_equal_words_have_equal_images_exactly_if_there_is_no_fault(self):
        for one, other, images in (
                ("plane", "whole", ((0,), (1,), (0, 0), (1, 1))), ("plane", "mirrors", ((0, 1), (1, 0), (0,), (0,))),
                ("swaps", "mirrors", ((0,), (1,))), ("swaps", "two", ((0,), (0,))), ("modular", "whole", ((), (), ()))):
            first, second = group_sample(one), group_sample(other)
            led = {}
            are_equal = True
            for word in words_up_to(first.telling.letters, 6 if first.telling.letters < 4 else 5):
                held = second.element(put_in(images, word))
                are_equal = are_equal and led.setdefault(first.element(word), held) == held
            self.assertEqual(is_map(group(one), group(other), images), are_equal)


class Image(unittest.TestCase):
    def test_images(self):
        one, other = group("plane"), group("whole")
        self.assertEqual(image(one, other, ((0, 0), (1, 1), (1,), (0,)), (0, 2, 0, 3, 3)), (0,) * 5)
        self.assertEqual(image(one, other, ((), (), (1,), (0,)), (0, 0)), ())
        self.assertEqual(image(one, other, ((0,), (1,), (0,), (1,)), ()), ())
        self.assertEqual(image(group=one, other=other, images=((0,), (1,), (0,), (1,)), word=(3,)), (1,))

    def test_the_same_group(self):
        one = group("plane")
        self.assertEqual(image(one, one, ((2,), (3,), (0,), (1,)), (0, 0, 3)), (1, 2, 2))

    def test_long_words(self):
        random = Random(82)
        for one, other, images in (("free", "bottle", ((0, 2, 0), (1, 3, 1), (2, 2), (3, 3))),
                                   ("modular", "swap and turn", ((0,), (1,), (2,))),
                                   ("far", "seven, deep", ((0, 0), (1, 1), (2, 2), (3, 1, 1)))):
            first, second = group_sample(one), group_sample(other)
            self.assertIsNone(plain_fault(first, second, images))
            for _ in range(5):
                word = tuple(random.randrange(first.telling.letters) for _ in range(40))
                told = image(group(one), group(other), images, word)
                self.assertTrue(second.telling.words.takes(told))
                self.assertEqual(second.element(told), second.element(put_in(images, word)))

    def test_no_map(self):
        for images, word in ((((0,), (0,)), ()), (((0,), (0,)), (0,))):
            with self.assertRaises(Undefined) as caught:
                image(group("whole"), group("whole"), images, word)
            self.assertEqual(caught.exception.what, "map")


class Wrong(unittest.TestCase):
    IMAGES = ODD_VALUES + (
        (), ((0,),), ((0,), (1,), ()), [(0,), (1,)], ((0,), [1]), ((0,), (2,)), ((0,), (True,)), ((0,), 1),
        ((0,), None), ((2,), (3,)), "01", ((0,), ((1,),)))

    def test_images(self):
        one = group("whole")
        for value in self.IMAGES:
            for call in (map_fault, is_map):
                with self.assertRaises(InvalidImages) as caught:
                    call(one, one, value)
                self.assertIs(caught.exception.value, value)

    def test_letters_of_the_other_group(self):
        one, other = group("whole"), group("free")
        self.assertIsNone(map_fault(one, other, ((3,), (2,))))
        with self.assertRaises(InvalidImages):
            map_fault(other, one, ((3,), (2,), (), ()))
        with self.assertRaises(InvalidImages):
            map_fault(other, one, ((0,), (1,)))

    def test_the_order_of_errors(self):
        one = group("whole")
        for value in self.IMAGES:
            for word in ((), None, (2,)):
                with self.assertRaises(InvalidImages) as caught:
                    image(one, one, value, word)
                self.assertIs(caught.exception.value, value)
        for word in ODD_VALUES + ((2,), [], [0], (0, True), "00"):
            for images in (((0,), (0,)), ((0,), (1,))):
                with self.assertRaises(InvalidWord) as caught:
                    image(one, one, images, word)
                self.assertIs(caught.exception.value, word)

    def test_words_are_over_the_letters_of_the_first_group(self):
        whole, free = group("whole"), group("free")
        self.assertEqual(image(free, whole, ((0,), (1,), (), ()), (0, 2, 3)), (0,))
        with self.assertRaises(InvalidWord):
            image(whole, free, ((2,), (3,)), (2,))


class Basics(unittest.TestCase):
    def test_arguments_stay_and_results_are_equal(self):
        one, other = [Group(group_sample(name).telling) for name in ("plane", "free")]
        images = ((0,), (1,), (2,), (3,))
        self.assertEqual(map_fault(one, other, images), map_fault(one, other, images))
        self.assertEqual((one, other), (group("plane"), group("free")))
        self.assertEqual(images, ((0,), (1,), (2,), (3,)))


if __name__ == "__main__":
    unittest.main()
