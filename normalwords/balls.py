"""Elements by the number of letters that make them."""

from normalwords.basics import is_number
from normalwords.errors import InvalidNumber
from normalwords.words import in_order


def ball(group, radius):
    """The normal words of all words of at most so many letters, in order."""
    return in_order([word for layer in _layers(group, radius) for word in layer])


def sphere(group, radius):
    """The normal words of all words of just so many letters that are equal to no shorter
    word, in order."""
    layers = _layers(group, radius)
    return in_order(layers[radius]) if radius < len(layers) else ()


def least_word(group, word):
    """The first of all words equal to the word."""
    goal = group.normal(word)
    firsts = {(): ()}
    layer = [()]
    while goal not in firsts:
        layer = _next_layer(group, firsts, layer)
    return firsts[goal]


def _layers(group, radius):
    """For each number of letters up to radius the normal words for which so many are needed;
    as far as there are such words."""
    if not is_number(radius):
        raise InvalidNumber(radius)
    firsts = {(): ()}
    layers = []
    layer = [()]
    while len(layers) <= radius and len(layer) > 0:
        layers.append(layer)
        layer = _next_layer(group, firsts, layer)
    return layers


def _next_layer(group, firsts, layer):
    """The normal words that one letter more leads to, other than those of firsts, in which
    they are put with the first words equal to them; they come in the order of these."""
    told = []
    for here in layer:
        for x in range(group.telling.letters):
            there = group.walker.led(here, x)
            if there not in firsts:
                firsts[there] = firsts[here] + (x,)
                told.append(there)
    return told
