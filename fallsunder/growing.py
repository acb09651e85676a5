"""Goods made from what a survey found; each main part is multiplied until it is the heaviest."""

from fallsunder.goods import sound_good
from fallsunder.mixcells import lightest_grams, plain_mix
from fallsunder.trees import built


class Grower:
    """Makes the goods of a survey."""

    def __init__(self, survey):
        self._survey = survey
        self._stock = survey.stock
        self._mixtures = {}
        self._loads = {}
        self._factors = {}

    def good_of(self, making):
        """The Good of a making."""
        heads = []
        stack = [(making, self._factor(making), 1)]
        while stack:
            here, factor, times = stack.pop()
            if len(here) == 1:
                grams = [worth * times for worth in self._mixture(here[0])]
                heads.append(plain_mix(self._stock.stuffs, self._stock.lands[0], grams))
            else:
                heads.append((here[0], here[1], self._stock.lands[0], 1 + len(here[3])))
                for number in here[3][::-1]:
                    stack.append((self._survey.makings[number][1], self._factors[number], times))
                stack.append((self._survey.makings[here[2]][1], self._factors[here[2]], times * factor))
        return sound_good(self._stock, built(heads))

    def _mixture(self, spans):
        if spans not in self._mixtures:
            self._mixtures[spans] = lightest_grams(spans)
        return self._mixtures[spans]

    def _factor(self, making):
        """By what the main part, which comes first, is multiplied to be at least as heavy as each other part."""
        if len(making) == 1:
            return 1
        for number in (making[2], *making[3]):
            if number not in self._loads:
                self._weigh(number)
        heaviest = max([0, *[self._loads[number] for number in making[3]]])
        return max(1, -(-heaviest // self._loads[making[2]]))

    def _weigh(self, number):
        """Find the weight of the good of a record, from those of its parts."""
        stack = [number]
        while stack:
            at = stack[len(stack) - 1]
            making = self._survey.makings[at][1]
            parts = [] if len(making) == 1 else [making[2], *making[3]]
            lacking = [part for part in parts if part not in self._loads]
            if lacking:
                stack.extend(lacking)
            else:
                stack.pop()
                self._note_load(at, making)

    def _note_load(self, at, making):
        self._factors[at] = self._factor(making)
        if len(making) == 1:
            self._loads[at] = sum(self._mixture(making[0]))
        else:
            others = sum([self._loads[number] for number in making[3]])
            self._loads[at] = self._loads[making[2]] * self._factors[at] + others
