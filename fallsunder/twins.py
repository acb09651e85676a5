"""Two parts at the same place of two things that are equal apart from it: where does a book tell the things apart?

A pair is what is known of the two things, two records, on the floor of the depth at which they lie. Pairs are found
in ascending order of the nodes around the part, until a pair of goods has two results. The two of a pair are joined;
a pair of those that are joined already, by way of others, is passed over: where it is told apart, one of the pairs
on the way is told apart, too, with no more nodes around it.
"""

from heapq import heappop, heappush
from fallsunder.answering import answers_of
from fallsunder.benches import Pack, look_of_record, lowest, paired_rows, starts_by
from fallsunder.desks import Desk
from fallsunder.floors import floors_of
from fallsunder.growing import Grower
from fallsunder.slimming import SlimSheet
from fallsunder.stages import narrowed_row
from fallsunder.surveys import Survey
from fallsunder.unions import Unions


class Layer:
    """A thing around a pair: its form and state, and its main part, a part, or the pair itself if lead is below 0."""

    def __init__(self, below, case, lead, others):
        self.below = below
        self.case = case
        self.lead = lead
        self.others = others


class PairPack:
    """Pairs that are possible main parts, two packs side by side; ids are the numbers of their layers."""

    def __init__(self, bench, rows):
        self.ids = [row[0] for row in rows]
        self.first = Pack(bench, self.ids, [row[1] for row in rows])
        self.second = Pack(bench, self.ids, [row[2] for row in rows])


class Twins:
    """The search for the least things around two goods that have two results."""

    def __init__(self, book):
        self._sheet = SlimSheet()
        self._desks = {0: Desk(self._sheet, 0, book)}
        self._survey = Survey(book.stock, self._sheet, self._desks, ((), (0,)))
        self._grower = Grower(self._survey)
        self._floors = floors_of(self._survey.stages)
        self._roots = ["mix", *[row[0] for row in book.stock.forms]]
        self._layers = [None]
        self._queue = []
        self._due = {}
        self._unions = Unions()

    def good_of(self, number):
        """A least good of the part with this number."""
        return self._grower.good_of(self._survey.makings[number][1])

    def layers_around(self, first, second):
        """The layers, from the innermost one, in which two goods have two results; None if there are none."""
        told = [answers_of(self._sheet, self._desks, good) for good in (first, second)]
        pairs = []
        for number, floor in enumerate(self._floors):
            pairs.append((number, 0, first.root, *[record_for(floor.bench, *row) for row in told]))
        self._spread(0, pairs)
        while self._queue:
            cost = heappop(self._queue)
            # what is made at a cost may plan more at the same cost
            while self._due[cost]:
                jobs = list(self._due[cost])
                self._due[cost] = []
                found = self._do(cost, jobs)
                if found is not None:
                    return self._down_from(found)
        return None

    def _do(self, cost, jobs):
        """Do what is planned at a cost; the Layer is told in which there are two results."""
        fresh = []
        for word, told in jobs:
            if word == "side":
                self._plan_mains(cost, *told)
            else:
                found = self._work(fresh, *told)
                if found is not None:
                    return found
        self._spread(cost, fresh)
        return None

    def _down_from(self, layer):
        out = []
        while layer is not None:
            out.append(layer)
            layer = self._layers[layer.below]
        return out[::-1]

    def _plan(self, cost, word, told):
        if cost not in self._due:
            self._due[cost] = []
            heappush(self._queue, cost)
        self._due[cost].append((word, told))

    def _spread(self, cost, pairs):
        """Plan what can be made around these pairs, rows (floor, layer, root, first, second)."""
        for number, floor in enumerate(self._floors):
            mine = [row for row in pairs if row[0] == number]
            for at, bay in enumerate(floor.bays):
                taken = [(row[1], row[3], row[4]) for row in mine if row[2] in bay.taking.takes]
                taken = [row for row in taken if self._join(("part", number, at), row[1], row[2])]
                self._spread_in(cost, (number, at), taken)

    def _spread_in(self, cost, where, pairs):
        """Plan what can be made around these pairs, rows (layer, first, second), in the bay of a floor."""
        floor = self._floors[where[0]]
        bay = floor.bays[where[1]]
        if pairs:
            pack = PairPack(floor.bench, pairs)
            for many, sides in enumerate(bay.sides):
                for some, each, total, numbers in sides if floor.cases(bay, many + 1) else []:
                    side = (some, each)
                    self._plan(cost + total + 1, "work", (where, pack, (side, side), numbers, ()))
        for layer, first, second in pairs:
            looks = (look_of_record(floor.bench, first), look_of_record(floor.bench, second))
            if self._join(("look", *where), *looks):
                self._plan_sides(cost, where, layer, looks)

    def _join(self, kind, first, second):
        """Join two things of a kind; were they apart?"""
        return self._unions.unite((*kind, first), (*kind, second))

    def _plan_sides(self, cost, where, layer, looks):
        """Plan the rows of parts beside the main one of which one is a pair with these looks."""
        floor = self._floors[where[0]]
        bay = floor.bays[where[1]]
        for many, sides in enumerate(bay.sides[:-1]):
            for some, each, total, numbers in sides if floor.cases(bay, many + 2) else []:
                both = tuple([(some | look[0], each & look[1]) for look in looks])
                self._plan(cost + total, "side", (where, both, numbers, layer))

    def _plan_mains(self, cost, where, both, numbers, layer):
        """Plan the things with a pair beside the main part."""
        bay = self._floors[where[0]].bays[where[1]]
        if self._join(("side", *where, len(numbers)), *both):
            for size, pack in bay.packs.items():
                self._plan(cost + size + 1, "work", (where, pack, both, numbers, (layer,)))

    def _work(self, fresh, where, pack, both, numbers, holes):
        """Make things; they are added to the fresh pairs, or the Layer is told in which there are two results."""
        floor = self._floors[where[0]]
        many = len(numbers) + 1 + len(holes)
        cases = floor.cases(floor.bays[where[1]], many)
        packs = (pack, pack) if holes else (pack.first, pack.second)
        answers = [floor.bench.things(cases, many, packs[k], both[k]) for k in (0, 1)]
        if where[0] == 0:
            goods = parting_bits(answers[0].groups[0], answers[1].groups[0])
            if goods:
                return layer_at(goods, cases, pack, numbers, holes)
        starts = starts_by([self._roots.index(case[0]) for case in cases], len(pack.ids))
        for goods, tag, first, second in paired_rows(answers, starts, *floor.telling) if floor.above else []:
            if self._join(("told", where[0], tag), first, second):
                self._layers.append(layer_at(goods, cases, pack, numbers, holes))
                for up in floor.above:
                    pair = [narrowed_row(floor.telling, self._floors[up].bench, *row) for row in (first, second)]
                    fresh.append((up, len(self._layers) - 1, self._roots[tag], *pair))
        return None


def record_for(bench, values, told):
    """What a Bench asks of a part with these worths of all cells and these results."""
    bits = sum([bench.bit_of[cell] for cell in bench.cells if values[cell] == 1])
    return (bits, tuple([told[owner] for owner in bench.keepers]))


def layer_at(goods, cases, pack, numbers, holes):
    """The Layer of the first of some goods."""
    at = lowest(goods)
    case = cases[at // len(pack.ids)]
    number = pack.ids[at % len(pack.ids)]
    if holes:
        return Layer(holes[0], case, number, numbers)
    return Layer(number, case, -1, numbers)


def parting_bits(firsts, seconds):
    """The goods whose results differ, rows (goods, result) being told twice."""
    out = 0
    for goods, result in firsts:
        for others, name in seconds:
            if name != result:
                out = out | goods & others
    return out
