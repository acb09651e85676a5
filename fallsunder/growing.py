"""Goods made from what a survey found; each main part is multiplied until it is the heaviest."""

from fallsunder.goods import sound_good
from fallsunder.mixcells import lightest_grams, plain_mix
from fallsunder.trees import built


class Grower:
    """Makes the goods of a survey."""

    def __init__(self, survey):
        self._survey = survey
        self._stock = survey.bench.stock
        self._mixtures = {}
        self._loads = {}

    def good_of(self, making):
        """The Good of a making."""
        heads = []
        stack = [(making, 1)]
        while stack:
            here, times = stack.pop()
            if len(here) == 1:
                grams = [worth * times for worth in self._mixture(here[0])]
                heads.append(plain_mix(self._stock.stuffs, self._stock.lands[0], grams))
            else:
                heads.append((here[0], here[1], self._stock.lands[0], 1 + len(here[3])))
                for number in here[3][::-1]:
                    stack.append((self._survey.makings[number][1], times))
                stack.append((self._survey.makings[here[2]][1], times * self._factor(here)))
        return sound_good(self._stock, built(heads))

    def _mixture(self, at):
        if at not in self._mixtures:
            self._mixtures[at] = lightest_grams(self._survey.bench.mixtures[at][1])
        return self._mixtures[at]

    def _factor(self, making):
        """By what the main part, which comes first, is multiplied to be at least as heavy as each other part."""
        heaviest = max([0, *[self._load(number) for number in making[3]]])
        return max(1, -(-heaviest // self._load(making[2])))

    def _load(self, number):
        """The weight of the good of a record, which is found from those of its parts."""
        stack = [number]
        while stack:
            at = stack[len(stack) - 1]
            making = self._survey.makings[at][1]
            parts = [] if len(making) == 1 else [making[2], *making[3]]
            lacking = [part for part in parts if part not in self._loads]
            if lacking:
                stack.extend(lacking)
            else:
                self._loads[at] = self._own_load(making)
                stack.pop()
        return self._loads[number]

    def _own_load(self, making):
        if len(making) == 1:
            return sum(self._mixture(making[0]))
        others = [self._loads[number] for number in making[3]]
        main = self._loads[making[2]]
        return main * max(1, -(-max([0, *others]) // main)) + sum(others)
