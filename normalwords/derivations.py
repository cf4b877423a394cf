"""Derivations of words out of rules."""

from normalwords.basics import is_number, is_sequence, is_whole
from normalwords.edgewords import edge_words
from normalwords.errors import InvalidRules, InvalidWord
from normalwords.words import freely_reduced, is_word, undone


def made_by(undo, rules, derivation):
    """The word that a derivation makes, freely reduced."""
    _check_rules(undo, rules)
    return _made(undo, rules, derivation)


def derives(undo, rules, word, value):
    """Whether any value is a derivation of the word out of the rules."""
    _check_rules(undo, rules)
    if not is_word(word, len(undo)):
        raise InvalidWord(word)
    if not isinstance(value, tuple) or not all([_is_triple(undo, rules, part) for part in value]):
        return False
    return _made(undo, rules, value) == freely_reduced(undo, word)


def tells_rules(group, rules, derivations):
    """Whether the rules are nothing in the group, and the derivations make all its edge words."""
    undo = group.telling.undo
    _check_rules(undo, rules)
    if not all([group.is_nothing(rule) for rule in rules]):
        return False
    words = edge_words(group.telling)
    if not is_sequence(derivations) or len(derivations) != len(words):
        return False
    return all([derives(undo, rules, word, value) for word, value in zip(words, derivations)])


def _check_rules(undo, rules):
    """Refuses what is no sequence of words, at the place of the first that is none."""
    if not is_sequence(rules):
        raise InvalidRules(0)
    for place, rule in enumerate(rules):
        if not is_word(rule, len(undo)):
            raise InvalidRules(place)


def _is_triple(undo, rules, value):
    """Whether a value is a turn, the place of a rule, and a sign."""
    if not isinstance(value, tuple) or len(value) != 3:
        return False
    turn, place, sign = value
    is_place = is_number(place) and place < len(rules)
    return is_word(turn, len(undo)) and is_place and is_whole(sign) and abs(sign) == 1


def _made(undo, rules, derivation):
    """What the triples of a derivation write, one behind another, freely reduced."""
    told = ()
    for turn, place, sign in derivation:
        rule = rules[place] if sign == 1 else undone(undo, rules[place])
        told = freely_reduced(undo, told + turn + rule + undone(undo, turn))
    return told
