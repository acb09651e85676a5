"""Goods made from Makings; their parts are multiplied until their weights keep what the Makings ask."""

from fallsunder.balances import multiples_near
from fallsunder.goods import sound_good
from fallsunder.mixcells import lightest_grams, plain_mix
from fallsunder.trees import built


class Making:
    """How a good is made: a head `(form, state, land)`, the numbers of its parts, the main one first, and weights.

    The weights of the parts, or weights that are nearly so, keep the rows. A mix has the head `("mix", land)`, no
    parts, and its spans in the place of weights.
    """

    def __init__(self, head, parts, weights, rows):
        self.head = head
        self.parts = parts
        self.weights = weights
        self.rows = rows


class Weigher:
    """Makes the goods of Makings, whose parts are told by their numbers in a list of Makings."""

    def __init__(self, stock, makings):
        self._stock = stock
        self._makings = makings
        self._loads = {}
        self._factors = {}

    def good_of(self, making):
        """The Good of a Making."""
        heads = []
        stack = [(making, self._factors_of(making), 1)]
        while stack:
            here, factors, times = stack.pop()
            if here.parts == ():
                heads.append(plain_mix(self._stock.stuffs, here.head[1], [worth * times for worth in grams_of(here)]))
            else:
                heads.append((*here.head, len(here.parts)))
                for number, factor in list(zip(here.parts, factors))[::-1]:
                    stack.append((self._makings[number], self._factors[number], times * factor))
        return sound_good(self._stock, built(heads))

    def _factors_of(self, making):
        """By what the parts are multiplied."""
        for number in list(making.parts):
            if number not in self._loads:
                self._weigh(number)
        loads = [self._loads[number] for number in making.parts]
        return multiples_near(loads, making.weights, making.rows) if loads else []

    def _weigh(self, number):
        """Find the weight of the good of a numbered Making, from those of its parts."""
        stack = [number]
        while stack:
            at = stack[len(stack) - 1]
            making = self._makings[at]
            lacking = [part for part in making.parts if part not in self._loads]
            if lacking:
                stack.extend(lacking)
            else:
                stack.pop()
                factors = self._factors_of(making)
                self._factors[at] = factors
                loads = [self._loads[part] * factor for part, factor in zip(making.parts, factors)]
                self._loads[at] = sum(loads) if loads else sum(grams_of(making))


def grams_of(making):
    """The grams of the stuffs in the lightest mix of a Making."""
    return lightest_grams(making.weights)
