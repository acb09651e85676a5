"""The greatest least price of changes that goods of a leaf need, found for all goods in ascending order of nodes.

Of a part it matters what kind it is in its story, and for which prices it can be changed into other kinds; what costs
as much as an exchange is as good as an exchange. Of two parts of one kind, the one all of whose prices are as great as
those of the other one, and that has no more nodes, stands for both: with it no good needs less.
"""

from fallsunder.ascents import Ascent
from fallsunder.growing import Grower
from fallsunder.halls import Hall
from fallsunder.tariffs import is_as_dear, least_price, lesser, raised, tariff_of


class Priced:
    """A part in a hall: its numbers there, its tariff as a main part, and the price of each look."""

    def __init__(self, number, nodes, at, mains, looks):
        self.number = number
        self.nodes = nodes
        self.main_at, self.look_at = at
        self.mains = mains
        self.looks = looks


class PricedSide:
    """Parts beside a main part: the number of their side, and prices.

    Steady is the price for each side that they can be changed into. Turned is, for each side of all but one of them,
    the tariff of that one as the main part.
    """

    def __init__(self, nodes, at, numbers, steady, turned):
        self.beside = len(numbers)
        self.nodes = nodes
        self.at = at
        self.numbers = numbers
        self.steady = steady
        self.turned = turned


class Pricing(Ascent):
    """Finds the good of a leaf that needs the greatest price to come to one of the wanted results of a Tower.

    Best is `(price, making)`, the price None if there is no way; it is None itself if no good has the leaf.
    """

    def __init__(self, tower, leaf, prices):
        tellings = tower.tellings
        super().__init__([Hall(one, room) for one in tellings for room in one.story.rooms if room.mains])
        self.stock = tower.stock
        self.makings = []
        self.best = None
        self._tower = tower
        self._prices = prices
        self._known = {}
        self._hits = {}
        self.ended = leaf not in tower.results
        for stand in list(self.stands):
            self.put_side(stand, PricedSide(0, 0, (), [0], []))
        for label, making in tower.mix_rows:
            self._judge(label, 0 if label & 1 else None, making)
        for story in list(tower.stories):
            for number, kind in enumerate(list(story.kinds)):
                if kind.top == "mix":
                    self._take(story, 1, number, {number: 0} if prices.exchange > 0 else {}, kind.making)
        self.run()

    def good_of_best(self):
        """The good that needs the greatest price."""
        return Grower(self).good_of(self.best[1])

    def _judge(self, label, price, making):
        """Take up a whole good with a label, which needs a price."""
        if label & 2 and not self.ended:
            if price is None or self.best is None or price > self.best[0]:
                self.best = (price, making)
            # where the leaf itself is wanted, no good needs anything
            self.ended = price is None or label == 3

    def _take(self, story, nodes, number, cheap, making):
        """Take up a part of a story, with the kinds that it can be changed into cheaply."""
        known = self._known.setdefault(("kind", story.number, number), [])
        if not any([is_dearer(other, cheap, self._prices.exchange) for other in known]):
            known.append(cheap)
            self.makings.append((nodes, making))
            for stand in list(self.stands):
                hall = stand.hall
                if hall.kit.story.number == story.number and story.kinds[number].top in hall.takes:
                    self._enter(stand, self._priced(hall, nodes, number, cheap))

    def _enter(self, stand, part):
        """Put a part into a hall, unless one is there that stands for it."""
        known = self._known.setdefault(("part", stand.number, part.main_at, part.look_at), [])
        if not any([is_as_dear(other, part.mains) for other in known]):
            known.append(part.mains)
            self.put_part(stand, part)

    def _priced(self, hall, nodes, number, cheap):
        """A part as it is in a hall."""
        limit = self._prices.exchange
        looks = [limit for _ in hall.look_at]
        rows = [(limit, (1 << len(hall.main_at)) - 1)]
        for kind, price in cheap.items():
            main, look = self._spot_of(hall, kind)
            rows.append((price, 1 << main))
            looks[look] = min(looks[look], price)
        return Priced(len(self.makings) - 1, nodes, self._spot_of(hall, number), tariff_of(rows), looks)

    def _spot_of(self, hall, kind):
        """The numbers of a kind as a main part and as a look."""
        one = hall.kit.kinds[kind]
        return (hall.main_at[one.record], hall.look_of(one))

    def widen(self, nodes, stand, part, side):
        """Take up the side with one more part, unless one is known that stands for it."""
        hall = stand.hall
        steady = [None for _ in hall.side_at[side.beside + 1]]
        for at, price in enumerate(list(side.steady)):
            for look, to in enumerate(list(hall.wider[side.beside][at])):
                steady[to] = lesser(steady[to], price + part.looks[look])
        rows = turned_rows(hall, side, part)
        turned = [tariff_of([*rows[at], *raised(part.mains, price)]) for at, price in enumerate(side.steady)]
        at = hall.wider[side.beside][side.at][part.look_at]
        known = self._known.setdefault(("side", stand.number, side.beside + 1, at), [])
        new = PricedSide(nodes, at, (*side.numbers, part.number), steady, turned)
        if not any([is_dearer_side(other, new) for other in known]):
            known.append(new)
            self.put_side(stand, new)

    def combine(self, nodes, stand, part, side):
        """Take up the things of a main part and a side."""
        hall = stand.hall
        own = [kinds[part.main_at] for kinds in hall.kinds_beside(side.beside, side.at)]
        tariffs = [raised(part.mains, price) for price in side.steady]
        if hall.kit.up < 0:
            if self._may_need_more(stand, side, tariffs, own):
                self._judge_things(stand, part, side, self._turned_too(hall, part, side, tariffs), own)
        elif self._may_be_new(hall, side, own):
            self._take_things(nodes, hall, part, side, self._turned_too(hall, part, side, tariffs), own)

    def _turned_too(self, hall, part, side, tariffs):
        """The tariffs of things beside each side, also for those of which another part becomes the main one."""
        rows = turned_rows(hall, side, part)
        return [tariff_of([*tariff, *raised(rows[at], self._prices.reweigh)]) for at, tariff in enumerate(tariffs)]

    def _may_need_more(self, stand, side, tariffs, own):
        """May whole goods with these labels need more than the best one? Further ways to change them cost no more."""
        if max(own) < 2 or self.best is None:
            return max(own) > 1
        prices = self._prices_of(stand, side, tariffs)
        return any([label > 1 and (price is None or price > self.best[0]) for label, price in zip(own, prices)])

    def _may_be_new(self, hall, side, own):
        """May things of these kinds, one for each case, be parts for which no others stand?"""
        cases = hall.case_rows[side.beside]
        limit = self._prices.exchange
        for case, number in zip(cases, own):
            # into these kinds a thing can be changed at least
            cheap = {mate: self._prices.restate for other, mate in zip(cases, own) if other[0] == case[0]}
            cheap[number] = 0
            known = self._known.get(("kind", hall.kit.up, number), [])
            if not any([is_dearer(other, cheap, limit) for other in known]):
                return True
        return False

    def _prices_of(self, stand, side, tariffs):
        """For each case the least price after which a thing has a wanted result, None if there is no way."""
        cases = stand.hall.case_rows[side.beside]
        leads = [self._lead_of(stand, side.beside, tariffs, k) for k in range(len(cases))]
        out = []
        for case, lead in zip(cases, leads):
            price = lead
            for mate, other in zip(cases, leads):
                if mate[0] == case[0]:
                    price = lesser(price, None if other is None else other + self._prices.restate)
            out.append(price)
        return out

    def _judge_things(self, stand, part, side, tariffs, own):
        """Judge the whole goods of a main part and a side; own are their labels."""
        prices = self._prices_of(stand, side, tariffs)
        for case, label, price in zip(stand.hall.case_rows[side.beside], own, prices):
            self._judge(label, price, (*case, part.number, side.numbers))

    def _take_things(self, nodes, hall, part, side, tariffs, own):
        """Take up the things of a main part and a side as parts of the story that tells them."""
        cases = hall.case_rows[side.beside]
        tables = self._cheap_tables(hall, side.beside, tariffs)
        for case, number, table in zip(cases, own, tables):
            cheap = dict(table)
            for mate, other in zip(cases, tables):
                if mate[0] == case[0]:
                    self._take_restated(cheap, other)
            self._take(self._tower.stories[hall.kit.up], nodes, number, cheap, (*case, part.number, side.numbers))

    def _take_restated(self, cheap, table):
        """Take up the kinds that a thing can be changed into cheaply once it is restated."""
        for kind, first in table.items():
            price = first + self._prices.restate
            if price < self._prices.exchange and (kind not in cheap or price < cheap[kind]):
                cheap[kind] = price

    def _cheap_tables(self, hall, beside, tariffs):
        """For each case the kinds that cost less than an exchange, with their prices."""
        tables = [{} for _ in hall.case_rows[beside]]
        for at, tariff in enumerate(tariffs):
            for price, bits in tariff:
                spots = numbers_of(bits) if price < self._prices.exchange else []
                for table, kinds in list(zip(tables, hall.kinds_beside(beside, at))) if spots else []:
                    for spot in spots:
                        table[kinds[spot]] = min(price, table.get(kinds[spot], price))
        return tables

    def _lead_of(self, stand, beside, tariffs, number):
        """The least price of a kind of a case that has a wanted result, None if there is none."""
        least = None
        for at, tariff in enumerate(tariffs):
            least = lesser(least, least_price(tariff, self._hits_at(stand, beside, at)[number]))
        return least

    def _hits_at(self, stand, beside, at):
        """For each case the main parts with which things beside a side have a wanted result."""
        key = (stand.number, beside, at)
        if key not in self._hits:
            rows = stand.hall.kinds_beside(beside, at)
            self._hits[key] = [sum([1 << k for k, label in enumerate(labels) if label & 1]) for labels in rows]
        return self._hits[key]


def turned_rows(hall, side, part):
    """For each side that all parts but one of a side make with one more, rows (price, bits) for that one as main."""
    rows = [[] for _ in hall.side_at[side.beside]]
    for at, tariff in enumerate(list(side.turned)):
        for look, to in enumerate(list(hall.wider[side.beside - 1][at])):
            rows[to].extend(raised(tariff, part.looks[look]))
    return rows


def numbers_of(bits):
    """The numbers of the bits that are set."""
    out = []
    while bits:
        low = bits & -bits
        out.append(low.bit_length() - 1)
        bits = bits ^ low
    return out


def is_dearer(known, cheap, limit):
    """Is each price of a known table at least as great as in another table? What is in no table has the limit."""
    return all([cheap.get(kind, limit) <= price for kind, price in known.items()])


def is_dearer_side(known, side):
    """Is each price of a known side at least as great as that of another one?"""
    if not all([price >= other for price, other in zip(known.steady, side.steady)]):
        return False
    return all([is_as_dear(tariff, other) for tariff, other in zip(known.turned, side.turned)])
