"""Two parts at the same place of two things that are equal apart from it: where does a book tell the things apart?

A pair is what is known of the two things, two records. Pairs are found in ascending order of the nodes around the
part, until a pair of things has two results.
"""

from heapq import heappop, heappush
from fallsunder.benches import Pack, look_of_record, lowest, paired_rows, starts_by


class Layer:
    """A thing around a pair: its form and state, and its main part, a kind, or the pair itself if lead is below 0."""

    def __init__(self, below, case, lead, others):
        self.below = below
        self.case = case
        self.lead = lead
        self.others = others


class PairPack:
    """Pairs that are possible main parts, two packs side by side; ids are the numbers of their layers."""

    def __init__(self, bench, rows):
        self.ids = [row[0] for row in rows]
        self.first = Pack(bench, self.ids, [row[1] for row in rows])
        self.second = Pack(bench, self.ids, [row[2] for row in rows])


class Twins:
    """The search for the least things around two records that have two results."""

    def __init__(self, kit):
        self._kit = kit
        self._bench = kit.bench
        self._reaches = [kit.reach_of(root) for root in ["mix", *[row[0] for row in kit.stock.forms]]]
        self._roots = ["mix", *[row[0] for row in kit.stock.forms]]
        self._layers = [None]
        self._queue = []
        self._due = {}
        self._met = {}

    def layers_around(self, root, first, second):
        """The layers, from the innermost one, in which the records have two results; None if there are none."""
        self._spread(0, [(0, self._kit.reach_of(root), first, second)])
        while self._queue:
            cost = heappop(self._queue)
            # what is made at a cost may plan more at the same cost
            while self._due[cost]:
                jobs = list(self._due[cost])
                self._due[cost] = []
                found = self._do(cost, jobs)
                if found is not None:
                    return self._down_from(found)
        return None

    def _do(self, cost, jobs):
        """Do what is planned at a cost; the Layer is told in which there are two results."""
        fresh = []
        for word, told in jobs:
            if word == "side":
                self._plan_mains(cost, *told)
            else:
                found = self._work(fresh, *told)
                if found is not None:
                    return found
        self._spread(cost, fresh)
        return None

    def _down_from(self, layer):
        out = []
        while layer is not None:
            out.append(layer)
            layer = self._layers[layer.below]
        return out[::-1]

    def _plan(self, cost, word, told):
        if cost not in self._due:
            self._due[cost] = []
            heappush(self._queue, cost)
        self._due[cost].append((word, told))

    def _spread(self, cost, pairs):
        """Plan what can be made around these pairs, rows (layer, reach, first, second)."""
        for at, room in enumerate(self._kit.rooms):
            mine = []
            for layer, reach, first, second in pairs:
                if reach >> at & 1 and first != second and self._is_new(("pair", at, first, second)):
                    mine.append((layer, first, second))
                    self._plan_sides(cost, at, room, (layer, first, second))
            if mine:
                pack = PairPack(self._bench, mine)
                for many, sides in enumerate(room.sides):
                    for some, each, total, numbers in sides if self._kit.cases(room, many + 1) else []:
                        side = (some, each)
                        self._plan(cost + total + 1, "work", (room, pack, (side, side), numbers, ()))

    def _is_new(self, key):
        if key in self._met:
            return False
        self._met[key] = True
        return True

    def _plan_sides(self, cost, at, room, pair):
        """Plan the rows of parts beside the main one of which one is the pair."""
        layer, first, second = pair
        looks = (look_of_record(self._bench, first), look_of_record(self._bench, second))
        if looks[0] == looks[1] or not self._is_new(("looks", at, *looks)):
            return
        for many, sides in enumerate(room.sides[:-1]):
            for some, each, total, numbers in sides if self._kit.cases(room, many + 2) else []:
                both = tuple([(some | look[0], each & look[1]) for look in looks])
                self._plan(cost + total, "side", (at, room, both, numbers, layer))

    def _plan_mains(self, cost, at, room, both, numbers, layer):
        """Plan the things with a pair beside the main part."""
        if both[0] != both[1] and self._is_new(("sides", at, len(numbers), *both)):
            for size in room.packs:
                self._plan(cost + size + 1, "work", (room, room.packs[size], both, numbers, (layer,)))

    def _work(self, fresh, room, pack, both, numbers, holes):
        """Make things; they are added to the fresh pairs, or the Layer is told in which there are two results."""
        cases = self._kit.cases(room, len(numbers) + 1 + len(holes))
        packs = (pack, pack) if holes else (pack.first, pack.second)
        bench = self._bench
        answers = [bench.things(cases, len(numbers) + 1 + len(holes), packs[k], both[k]) for k in (0, 1)]
        goods = parting_bits(answers[0].groups[0], answers[1].groups[0])
        if goods:
            return layer_at(goods, cases, pack, numbers, holes)
        starts = starts_by([self._roots.index(case[0]) for case in cases], len(pack.ids))
        for goods, tag, first, second in paired_rows(answers, starts, bench.cells, bench.keepers):
            if first != second and self._reaches[tag]:
                self._layers.append(layer_at(goods, cases, pack, numbers, holes))
                fresh.append((len(self._layers) - 1, self._reaches[tag], first, second))
        return None


def layer_at(goods, cases, pack, numbers, holes):
    """The Layer of the first of some goods."""
    at = lowest(goods)
    case = cases[at // len(pack.ids)]
    number = pack.ids[at % len(pack.ids)]
    if holes:
        return Layer(holes[0], case, number, numbers)
    return Layer(number, case, -1, numbers)


def parting_bits(firsts, seconds):
    """The goods whose results differ, rows (goods, result) being told twice."""
    out = 0
    for goods, result in firsts:
        for others, name in seconds:
            if name != result:
                out = out | goods & others
    return out
