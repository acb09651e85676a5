"""The greatest least price of changes that goods of a leaf need, found for all goods in ascending order of nodes.

Of a part it matters what kind it is, and for which prices it can be changed into other kinds; what costs as much as an
exchange is as good as an exchange. Of two parts of one kind, the one all of whose prices are as great as those of the
other one, and that has no more nodes, stands for both: with it no good needs less.
"""

from fallsunder.ascents import Ascent
from fallsunder.growing import Grower
from fallsunder.halls import halls_of


class Priced:
    """A part in a hall: its numbers there, and the price for which it is each main part and each look."""

    def __init__(self, number, nodes, at, mains, looks):
        self.number = number
        self.nodes = nodes
        self.main_at, self.look_at = at
        self.mains = mains
        self.looks = looks


class PricedSide:
    """Parts beside a main part: the number of their side, and prices.

    Steady is the price for each side that they can be changed into. Turned is, for each side of all but one of them,
    the price for which that one is each main part.
    """

    def __init__(self, beside, nodes, at, numbers, prices):
        self.beside = beside
        self.nodes = nodes
        self.at = at
        self.numbers = numbers
        self.steady, self.turned = prices


class Pricing(Ascent):
    """Finds the good of a leaf that needs the greatest price to come to one of some results.

    Best is `(price, making)`, the price None if there is no way; it is None itself if no good has the leaf.
    """

    def __init__(self, kit, leaf, wanted, prices):
        super().__init__(halls_of(kit))
        self.stock = kit.stock
        self.makings = []
        self.best = None
        self._kit = kit
        self._leaf = leaf
        self._wanted = [kind.results[0] in wanted for kind in kit.kinds]
        self._prices = prices
        self._tables = {}
        self._sides = {}
        self._entered = {}
        self.ended = leaf not in [kind.results[0] for kind in kit.kinds]
        for stand in list(self.stands):
            side = PricedSide(0, 0, 0, (), ((0,), ()))
            self.put_side(stand, side)
        for number, kind in enumerate(list(kit.kinds)):
            if kind.top == "mix" and not self.ended:
                self._take(1, number, {number: 0}, kind.making)
        self.run()

    def good_of_best(self):
        """The good that needs the greatest price."""
        return Grower(self).good_of(self.best[1])

    def _take(self, nodes, number, table, making):
        """Take up a good of a kind that can be changed into the kinds of a table."""
        if self._kit.kinds[number].results[0] == self._leaf:
            ways = [price for kind, price in table.items() if self._wanted[kind]]
            price = min(ways) if ways else None
            if price is None or self.best is None or price > self.best[0]:
                self.best = (price, making)
            # where the leaf itself is wanted, no good needs anything
            self.ended = price is None or self._wanted[number]
        limit = self._prices.exchange
        cheap = {kind: price for kind, price in table.items() if price < limit}
        known = self._tables.setdefault(number, [])
        if not any([is_dearer(other, cheap, limit) for other in known]):
            known.append(cheap)
            self.makings.append((nodes, making))
            for stand in list(self.stands):
                if self._kit.kinds[number].top in stand.hall.takes:
                    self._enter(stand, self._priced(stand.hall, nodes, number, cheap))

    def _enter(self, stand, part):
        """Put a part into a hall, unless one is there that stands for it."""
        known = self._entered.setdefault((stand.number, part.main_at, part.look_at), [])
        if not any([is_as_dear(other, part.mains) for other in known]):
            known.append(part.mains)
            self.put_part(stand, part)

    def _priced(self, hall, nodes, number, cheap):
        limit = self._prices.exchange
        mains = [limit for _ in hall.main_at]
        looks = [limit for _ in hall.look_at]
        for kind, price in cheap.items():
            main, look = self._spot_of(hall, kind)
            mains[main] = min(mains[main], price)
            looks[look] = min(looks[look], price)
        return Priced(len(self.makings) - 1, nodes, self._spot_of(hall, number), mains, looks)

    def _spot_of(self, hall, kind):
        """The numbers of a kind as a main part and as a look."""
        one = self._kit.kinds[kind]
        return (hall.main_at[one.record], hall.look_of(one))

    def widen(self, nodes, stand, part, side):
        """Take up the side with one more part, unless one is known that stands for it."""
        hall = stand.hall
        kept = [None for _ in hall.side_at[side.beside + 1]]
        for at, price in enumerate(list(side.steady)):
            for look, to in enumerate(list(hall.wider[side.beside][at])):
                both = price + part.looks[look]
                if kept[to] is None or both < kept[to]:
                    kept[to] = both
        turned = turned_with(hall, side, part)
        for at, price in enumerate(list(side.steady)):
            turned[at] = cheapest_of(turned[at], [price + main for main in part.mains])
        at = hall.wider[side.beside][side.at][part.look_at]
        known = self._sides.setdefault((stand.number, side.beside + 1, at), [])
        flat = [*kept, *[price for row in turned for price in row]]
        if not any([is_as_dear(other, flat) for other in known]):
            known.append(flat)
            numbers = (*side.numbers, part.number)
            self.put_side(stand, PricedSide(side.beside + 1, nodes, at, numbers, (kept, turned)))

    def combine(self, nodes, stand, part, side):
        """Take up the things of a main part and a side."""
        hall = stand.hall
        cases = hall.case_rows[side.beside]
        tables = [{} for _ in cases]
        turned = turned_with(hall, side, part)
        for at, kept in enumerate(list(side.steady)):
            row = [kept + main for main in part.mains]
            if side.beside > 0:
                row = cheapest_of(row, [self._prices.reweigh + price for price in turned[at]])
            for table, kinds in zip(tables, hall.kinds_beside(side.beside, at)):
                for kind, price in zip(kinds, row):
                    if kind not in table or price < table[kind]:
                        table[kind] = price
        own = [kinds[part.main_at] for kinds in hall.kinds_beside(side.beside, side.at)]
        for number, case in enumerate(cases):
            if not self.ended:
                table = restated(cases, tables, number, self._prices.restate)
                self._take(nodes, own[number], table, (*case, part.number, side.numbers))


def restated(cases, tables, number, price):
    """The prices for which a thing of one of the cases becomes each kind, its state being changed where that helps."""
    out = dict(tables[number])
    for case, table in zip(cases, tables):
        if case[0] == cases[number][0]:
            for kind, first in table.items():
                if kind not in out or first + price < out[kind]:
                    out[kind] = first + price
    return out


def turned_with(hall, side, part):
    """For each side that all parts but one of a side make with one more, the prices of that one as main part."""
    out = [None for _ in hall.side_at[side.beside]]
    for at, row in enumerate(list(side.turned)):
        for look, to in enumerate(list(hall.wider[side.beside - 1][at])):
            out[to] = cheapest_of(out[to], [price + part.looks[look] for price in row])
    return out


def cheapest_of(row, other):
    """The lesser one of each two prices; the first row may be None."""
    if row is None:
        return other
    return [price if price < another else another for price, another in zip(row, other)]


def is_dearer(known, cheap, limit):
    """Is each price of a known table at least as great as in another table? What is in no table has the limit."""
    return all([cheap.get(kind, limit) <= price for kind, price in known.items()])


def is_as_dear(known, prices):
    """Is each known price at least as great as the other one?"""
    return all([other <= price for price, other in zip(known, prices)])
