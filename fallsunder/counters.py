"""Things whose parts are brought in whole, by what matters for the prices of their ways.

Rates and prices are told as integers, all multiplied by one scale.
"""

from math import lcm
from fallsunder.balances import multiples_near, weights_within
from fallsunder.goods import sound_good
from fallsunder.halls import halls_of
from fallsunder.kits import Kit


class Offer:
    """Parts of so many nodes, by the numbers of their kinds, with their rates, which ascend."""

    def __init__(self, nodes, numbers, rates):
        self.nodes = nodes
        self.numbers = numbers
        self.rates = rates


class Thing:
    """A thing of a case and a kind, with its main part and the other ones; finished is the rate in its best state."""

    def __init__(self, case, kind, main, others, finished):
        self.case = case
        self.kind = kind
        self.nodes = 1 + main.nodes + others.nodes
        self.numbers = (*main.numbers, *others.numbers)
        self.main_rate = main.rates[0]
        self.other_rates = others.rates
        self.finished = finished


class Counters:
    """All things that matter for the prices of a book's goods by some Rates."""

    def __init__(self, rates):
        book = rates.book
        self._kit = Kit([book])
        self._forms = [row[0] for row in book.stock.forms]
        prices = [*rates.price_rows(), *([] if rates.finishing is None else [rates.finishing])]
        scale = 1
        for price in prices:
            scale = lcm(scale, price.bottom)
        self.scale = scale
        results = {kind.results[0]: True for kind in self._kit.kinds}
        self._rates = {name: scaled(rates[name], scale) for name in results}
        self._joins = {form: scaled(rates.join_price(form), scale) for form in self._forms}
        self._finishing = None if rates.finishing is None else scaled(rates.finishing, scale)

    def rate_of(self, kind):
        """The rate of the goods of a kind."""
        return self._rates[self._kit.kinds[kind].results[0]]

    def all_things(self):
        """All things that may be the least that have a cheaper way."""
        for hall in halls_of(self._kit):
            offers = self._offers_in(hall)
            for beside, table in enumerate(self._sides_in(hall)):
                for at, sides in list(table.items()) if hall.case_rows[beside] else []:
                    yield from self._things_beside(hall, beside, at, sides, offers)

    def _things_beside(self, hall, beside, at, sides, offers):
        """The things with one of these rows of parts beside a main part."""
        cases = hall.case_rows[beside]
        for spot, mains in offers.items():
            kinds = [row[spot] for row in hall.kinds_beside(beside, at)]
            for case, kind in zip(cases, kinds):
                mates = [self.rate_of(mate) for other, mate in zip(cases, kinds) if other[0] == case[0]]
                for main in mains:
                    for side in sides:
                        yield Thing(case, kind, main, side, min(mates))

    def _offers_in(self, hall):
        """For each main part of a hall the Offers of one part that may matter."""
        out = {}
        for number, kind in enumerate(self._kit.kinds):
            if kind.top in hall.takes:
                spot = hall.main_at[kind.record]
                out[spot] = with_offer(out.get(spot, []), Offer(kind.nodes, (number,), (self.rate_of(number),)))
        return out

    def _sides_in(self, hall):
        """For each number of parts beside the main one, for each side, the Offers of parts that may matter."""
        looks = {}
        for number, kind in enumerate(self._kit.kinds):
            if kind.top in hall.takes:
                look = hall.look_of(kind)
                looks[look] = with_offer(looks.get(look, []), Offer(kind.nodes, (number,), (self.rate_of(number),)))
        tables = [{0: [Offer(0, (), ())]}]
        for beside in range(hall.reach):
            table = {}
            for at, sides in list(tables[beside].items()):
                for look, parts in looks.items():
                    to = hall.wider[beside][at][look]
                    for side in sides:
                        for part in parts:
                            table[to] = with_offer(table.get(to, []), joined_offer(side, part))
            tables.append(table)
        return tables

    def is_cheaper(self, thing):
        """Has a thing, its parts having weights that suit, a cheaper way than to be brought in as it is?"""
        rate = self.rate_of(thing.kind)
        if self._finishing is not None and thing.finished + self._finishing < rate:
            return True
        total, many = average_of(thing.main_rate, thing.other_rates)
        return total + self._joins[thing.case[0]] * many < rate * many

    def good_of(self, thing):
        """The Good of a thing that has a cheaper way."""
        rate = self.rate_of(thing.kind)
        rows = []
        if self._finishing is None or thing.finished + self._finishing >= rate:
            limit = rate - self._joins[thing.case[0]]
            rows = [(tuple([price - limit for price in (thing.main_rate, *thing.other_rates)]), True)]
        goods = [self._kit.good_of(number) for number in thing.numbers]
        factors = multiples_near([good.weight for good in goods], weights_within(rows, len(goods)), rows)
        parts = tuple([(good * factor).plain for good, factor in zip(goods, factors)])
        return sound_good(self._kit.stock, (*thing.case, self._kit.stock.lands[0], parts))


def scaled(ratio, scale):
    """A ratio multiplied by a scale that makes it an integer."""
    return ratio.top * (scale // ratio.bottom)


def average_of(main_rate, other_rates):
    """The least that a gram of the parts can cost, or come near to: rows (sum of rates, their number).

    No part is heavier than the main one, so that parts with lesser rates are as heavy as it is, and others very light.
    """
    total = main_rate
    many = 1
    for rate in other_rates:
        if rate * many < total:
            total = total + rate
            many = many + 1
    return (total, many)


def joined_offer(side, part):
    """The Offer of some parts and one more, by ascending rates."""
    rows = sorted([*list(zip(side.rates, side.numbers)), (part.rates[0], part.numbers[0])])
    return Offer(side.nodes + part.nodes, tuple([row[1] for row in rows]), tuple([row[0] for row in rows]))


def with_offer(offers, new):
    """Some Offers with a new one, without those that are no better than another one."""
    if any([is_as_good(old, new) for old in offers]):
        return offers
    return [*[old for old in offers if not is_as_good(new, old)], new]


def is_as_good(offer, other):
    """Has an Offer no more nodes, and no greater rates, than the other one?"""
    return offer.nodes <= other.nodes and all([rate <= price for rate, price in zip(offer.rates, other.rates)])
