"""Maps from a group to a group, told by images of the letters."""

from normalwords.edgewords import edge_words
from normalwords.errors import InvalidImages, InvalidWord, Undefined
from normalwords.words import is_word


def map_fault(group, other, images):
    """The first of the words (x, undo[x]) and the edge words of group whose image is not
    nothing in other, or None."""
    if not _are_images(group.telling.letters, other.telling.letters, images):
        raise InvalidImages(images)
    undo = group.telling.undo
    rules = [(x, undo[x]) for x in range(len(undo))]
    rules.extend(edge_words(group.telling))
    for word in rules:
        if not other.is_nothing(_put_in(images, word)):
            return word
    return None


def is_map(group, other, images):
    """Whether words that are equal in group have equal images in other."""
    return map_fault(group, other, images) is None


def image(group, other, images, word):
    """The normal word of the image of a word."""
    if not _are_images(group.telling.letters, other.telling.letters, images):
        raise InvalidImages(images)
    if not is_word(word, group.telling.letters):
        raise InvalidWord(word)
    if not is_map(group, other, images):
        raise Undefined("map")
    return other.normal(_put_in(images, word))


def _are_images(letters, other_letters, images):
    """Whether any value is a word over the other letters for each letter."""
    if not isinstance(images, tuple) or len(images) != letters:
        return False
    return all([is_word(word, other_letters) for word in images])


def _put_in(images, word):
    """The word with each letter's image in its place."""
    told = []
    for x in word:
        told.extend(images[x])
    return tuple(told)
