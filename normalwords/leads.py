"""The pair machines by which words lead normal words."""

from normalwords.languages import least_machine
from normalwords.relations import behind, equal_pairs


class Leads:
    """For a telling that tells places: which normal words are led to which by a word."""

    def __init__(self, telling):
        self._letters = telling.letters
        self._steps = [least_machine(step) for step in telling.steps]
        # Words with a beginning in common are asked for together, so what is made is kept.
        self._made = {(): equal_pairs(telling.words)}
        for x, step in enumerate(self._steps):
            self._made[(x,)] = step

    def by(self, word):
        """The least pair machine that takes (u, v) if the word leads u to v."""
        for n in range(2, len(word) + 1):
            if word[:n] not in self._made:
                self._made[word[:n]] = behind(self._made[word[:n - 1]], self._steps[word[n - 1]], self._letters)
        return self._made[word]
