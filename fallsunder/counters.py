"""Things whose parts are brought in whole, by what matters for the prices of their ways.

Rates and prices are told as integers, all multiplied by one scale.
"""

from math import lcm
from fallsunder.balances import multiples_near, weights_within
from fallsunder.books import RESULTS
from fallsunder.desks import Desk
from fallsunder.excerpts import bench_for
from fallsunder.goods import sound_good
from fallsunder.growing import Grower
from fallsunder.halls import halls_of
from fallsunder.kits import Kind
from fallsunder.slimming import SlimSheet
from fallsunder.stories import Story
from fallsunder.surveys import Survey


class Offer:
    """Parts of so many nodes, by the numbers of their kinds, with their rates, which ascend."""

    def __init__(self, nodes, numbers, rates):
        self.nodes = nodes
        self.numbers = numbers
        self.rates = rates


class Stall:
    """Things of a case with one rate: the bits of their main parts, and the Offers of parts beside them.

    Mains are for each rate of a main part the Offers of such, rows (bit, Offer), the smallest first. Mates are rows
    (rate, bits) for the same things in all states.
    """

    def __init__(self, case, rate, bits, sides):
        self.case = case
        self.rate = rate
        self.bits = bits
        self.sides = sides
        self.mains = {}
        self.mates = []


class Thing:
    """A thing that has a cheaper way, by a rate that its parts must stay below in the mean, None if it is finished."""

    def __init__(self, case, main, side, limit):
        self.case = case
        self.nodes = 1 + main.nodes + side.nodes
        self.numbers = (*main.numbers, *side.numbers)
        self.rates = (*main.rates, *side.rates)
        self.limit = limit


def story_of_parts(book):
    """The Story of the parts of goods, whose kinds tell the results of the parts, too, and a Grower for these."""
    sheet = SlimSheet()
    desks = {0: Desk(sheet, 0, book)}
    bench = bench_for(book.stock, sheet, desks, ((), (0,)))
    survey = Survey(book.stock, sheet, desks, (tuple(bench.cells), (0,)), rooted=True)
    kinds = []
    for (root, bits, results), found in survey.rows.items():
        kinds.append(Kind(root, (bits, results if bench.keepers else ()), results, found))
    return (Story(0, bench, kinds), Grower(survey))


class Counters:
    """All things that matter for the prices of a book's goods by some Rates."""

    def __init__(self, rates):
        forms = [row[0] for row in rates.book.stock.forms]
        scale = 1
        for price in [*rates.price_rows(), *([] if rates.finishing is None else [rates.finishing])]:
            scale = lcm(scale, price.bottom)
        self.scale = scale
        self._below, self._grower = story_of_parts(rates.book)
        self._rates = {name: scaled(rates[name], scale) for name in [*rates.book.leaves, *RESULTS]}
        self._joins = {form: scaled(rates.join_price(form), scale) for form in forms}
        self._finishing = None if rates.finishing is None else scaled(rates.finishing, scale)

    def all_stalls(self):
        """All Stalls."""
        for hall in halls_of(self._below):
            mains = self._mains_in(hall)
            for beside, table in enumerate(self._sides_in(hall)):
                for at, sides in list(table.items()) if hall.case_rows[beside] else []:
                    for stall in self._stalls_beside(hall, beside, at, sides):
                        stall.mains = mains
                        yield stall

    def _stalls_beside(self, hall, beside, at, sides):
        """The Stalls with these Offers beside a main part."""
        cases = hall.case_rows[beside]
        wide = len(hall.room.mains)
        stalls = []
        answers = self._below.answers_beside(hall.room, beside, hall.room.sides[beside][at])
        for goods, result in answers.groups[0]:
            for k, case in enumerate(cases):
                bits = goods >> k * wide & (1 << wide) - 1
                if bits:
                    stalls.append(Stall(case, self._rates[result], bits, sides))
        for stall in list(stalls):
            stall.mates = [(mate.rate, mate.bits) for mate in stalls if mate.case[0] == stall.case[0]]
        return stalls

    def _mains_in(self, hall):
        """For each rate the Offers of single parts with this rate, rows (bit as a main part, Offer), by their nodes."""
        out = {}
        for number, kind in enumerate(list(self._below.kinds)):
            if kind.top in hall.takes:
                rate = self._rates[kind.results[0]]
                offer = Offer(kind.nodes, (number,), (rate,))
                out.setdefault(rate, []).append((1 << hall.main_at[kind.record], offer))
        return out

    def _sides_in(self, hall):
        """For each number of parts beside the main one, for each side, the Offers of parts that may matter."""
        looks = {}
        for number, kind in enumerate(list(self._below.kinds)):
            if kind.top in hall.takes:
                look = hall.look_of(kind)
                offer = Offer(kind.nodes, (number,), (self._rates[kind.results[0]],))
                looks[look] = with_offer(looks.get(look, []), offer)
        tables = [{0: [Offer(0, (), ())]}]
        for beside in range(hall.reach):
            table = {}
            for at, sides in list(tables[beside].items()):
                for look, parts in looks.items():
                    to = hall.wider[beside][at][look]
                    for side in sides:
                        for part in parts:
                            table[to] = with_offer(table.get(to, []), joined_offer(side, part))
            tables.append(table)
        return tables

    def cheaper_things(self, stall):
        """The Things of a Stall that have a cheaper way, some of them: a smallest one is among them."""
        out = []
        if self._finishing is not None:
            for rate, bits in stall.mates:
                if rate + self._finishing < stall.rate and bits & stall.bits:
                    main = smallest(list(stall.mains.values()), bits & stall.bits)
                    out.extend([Thing(stall.case, main, side, None) for side in stall.sides])
        limit = stall.rate - self._joins[stall.case[0]]
        for rate, mains in stall.mains.items():
            fitting = [side for side in stall.sides if is_below(rate, side.rates, limit)]
            main = smallest([mains], stall.bits) if fitting else None
            if main is not None:
                out.extend([Thing(stall.case, main, side, limit) for side in fitting])
        return out

    def good_of(self, thing):
        """The Good of a Thing that has a cheaper way."""
        rows = []
        if thing.limit is not None:
            rows = [(tuple([rate - thing.limit for rate in thing.rates]), True)]
        goods = [self._grower.good_of(self._below.kinds[number].making) for number in thing.numbers]
        factors = multiples_near([good.weight for good in goods], weights_within(rows, len(goods)), rows)
        parts = tuple([(good * factor).plain for good, factor in zip(goods, factors)])
        return sound_good(self._below.stock, (*thing.case, self._below.stock.lands[0], parts))


def scaled(ratio, scale):
    """A ratio multiplied by a scale that makes it an integer."""
    return ratio.top * (scale // ratio.bottom)


def smallest(tables, bits):
    """The smallest Offer whose bit is among some bits, from tables of rows (bit, Offer), None if there is none."""
    least = None
    for rows in tables:
        found = [offer for bit, offer in rows if bit & bits]
        if found and (least is None or found[0].nodes < least.nodes):
            least = found[0]
    return least


def average_of(main_rate, other_rates):
    """The least that a gram of the parts can cost, or come near to: (sum of rates, their number).

    No part is heavier than the main one, so that parts with lesser rates are as heavy as it is, and others very light.
    """
    total = main_rate
    many = 1
    for rate in other_rates:
        if rate * many < total:
            total = total + rate
            many = many + 1
    return (total, many)


def is_below(main_rate, other_rates, limit):
    """Can a gram of the parts cost less than the limit?"""
    total, many = average_of(main_rate, other_rates)
    return total < limit * many


def joined_offer(side, part):
    """The Offer of some parts and one more, by ascending rates."""
    rows = sorted([*list(zip(side.rates, side.numbers)), (part.rates[0], part.numbers[0])])
    return Offer(side.nodes + part.nodes, tuple([row[1] for row in rows]), tuple([row[0] for row in rows]))


def with_offer(offers, new):
    """Some Offers with a new one, without those that are no better than another one."""
    if any([is_as_good(old, new) for old in offers]):
        return offers
    return [*[old for old in offers if not is_as_good(new, old)], new]


def is_as_good(offer, other):
    """Has an Offer no more nodes, and no greater rates, than the other one?"""
    return offer.nodes <= other.nodes and all([rate <= price for rate, price in zip(offer.rates, other.rates)])
