"""How deep a book looks into goods: may two parts that lie so deep change the result of the good?

Two goods that are alike to a depth are joined by goods of which each differs from the one ahead of it in one part
at this depth. So pairs of things that differ in one part alone are followed from the part up to the good itself. The
two of a pair are joined; a pair of those that are joined already, by way of others, is passed over.
"""

from fallsunder.benches import look_of_record, paired_rows, starts_by
from fallsunder.desks import Desk
from fallsunder.floors import floors_of, main_pack
from fallsunder.growing import Grower
from fallsunder.slimming import SlimSheet
from fallsunder.stages import narrowed_row
from fallsunder.surveys import Survey
from fallsunder.twins import PairPack, layer_at, parting_bits
from fallsunder.unions import Unions


class Hole:
    """Two parts, by their numbers in a survey, that stand at the same place of two goods."""

    def __init__(self, first, second):
        self.first = first
        self.second = second


class Sounding:
    """Looks for things around two parts that have two results."""

    def __init__(self, book):
        sheet = SlimSheet()
        desks = {0: Desk(sheet, 0, book)}
        survey = Survey(book.stock, sheet, desks, ((), (0,)))
        self._survey = survey
        self._grower = Grower(survey)
        self._floors = floors_of(survey.stages)
        # for each bay of each floor all main parts in one Pack
        self._packs = [[main_pack(floor.bench, rows_of_mains(bay)) for bay in floor.bays] for floor in self._floors]
        self._roots = ["mix", *[row[0] for row in book.stock.forms]]
        self._layers = []

    def good_of(self, number):
        """A least good of the part with this number."""
        return self._grower.good_of(self._survey.makings[number][1])

    def two_results(self):
        """Two goods with two results, None if all have one."""
        rows = list(self._survey.rows.values())
        if len(rows) < 2:
            return None
        return (self._grower.good_of(rows[0][1]), self._grower.good_of(rows[1][1]))

    def layers_at(self, depth):
        """A Hole, and the layers around it, from the innermost one, in which two goods have two results, or None."""
        last = len(self._floors) - 1
        at = min(depth - 1, last)
        pairs = self._hole_pairs(at)
        for _ in range(depth - 1 - at):
            pairs = self._spread(last, self._told_above(last, pairs))
        return self._layers_from(at, pairs)

    def least_depth(self):
        """The least depth from 1 on at which no two parts have two results, None if there is none."""
        last = len(self._floors) - 1
        for depth in range(1, last + 2):
            if self.layers_at(depth) is None:
                return depth
        depth = last + 1
        told = self._told_above(last, self._hole_pairs(last))
        while self._layers_from(last, self._spread(last, told)) is not None:
            follows = self._told_above(last, self._spread(last, told))
            depth += 1
            # pairs become fewer the deeper they come from; once they do not, they stay what they are
            if len(follows) == len(told):
                return None
            told = follows
        return depth + 1

    def _layers_from(self, at, pairs):
        """The Hole and the layers around the first of some pairs on a floor from which two results come, or None."""
        for number in range(at, 0, -1):
            pairs = self._spread(number - 1, self._told_above(number, pairs))
        layer = self._parting_layer(pairs)
        if layer is None:
            return None
        out = []
        while not isinstance(layer, Hole):
            out.append(layer)
            layer = self._layers[layer.below]
        return (layer, out[::-1])

    def _hole_pairs(self, number):
        """For each bay of a floor pairs that join all parts that can be there: rows (layer, first, second)."""
        out = []
        for bay in list(self._floors[number].bays):
            mains = [main for row in rows_of_mains(bay) for main in row[3].values()]
            pairs = []
            for other in mains[1:]:
                self._layers.append(Hole(mains[0][0], other[0]))
                pairs.append((len(self._layers) - 1, mains[0][1], other[1]))
            out.append(pairs)
        return out

    def _spread(self, number, told):
        """For each bay of a floor the pairs that are told of its parts, rows (layer, root, asked, first, second)."""
        floor = self._floors[number]
        out = []
        for bay in list(floor.bays):
            unions = Unions()
            pairs = []
            for layer, root, asked, first, second in told:
                if root in bay.taking.takes:
                    both = [narrowed_row(asked, floor.bench, *row) for row in (first, second)]
                    if unions.unite(both[0], both[1]):
                        pairs.append((layer, both[0], both[1]))
            out.append(pairs)
        return out

    def _told_above(self, number, pairs):
        """The pairs that a floor tells of, from pairs of its parts: rows (layer, root, asked, first, second)."""
        floor = self._floors[number]
        unions = Unions()
        out = []
        # the loop walks what this very object makes, so its new layers are kept apart until the loop has ended
        layers = []
        many = len(self._layers)
        for work in self._works(number, pairs):
            answers, cases, pack, numbers, holes = work
            apart = goods_apart(answers, *floor.telling)
            starts = starts_by([self._roots.index(case[0]) for case in cases], len(pack.ids)) if apart else []
            starts = [(goods & apart, tag) for goods, tag in starts if goods & apart]
            for goods, tag, first, second in paired_rows(answers, starts, *floor.telling) if starts else []:
                if unions.unite((tag, first), (tag, second)):
                    out.append((many + len(layers), self._roots[tag], floor.telling, first, second))
                    layers.append(layer_at(goods, cases, pack, numbers, holes))
        self._layers.extend(layers)
        return out

    def _parting_layer(self, pairs):
        """A Layer of the first floor in which two goods have two results, None if there is none."""
        for answers, cases, pack, numbers, holes in self._works(0, pairs):
            goods = parting_bits(answers[0].groups[0], answers[1].groups[0])
            if goods:
                return layer_at(goods, cases, pack, numbers, holes)
        return None

    def _works(self, number, pairs):
        """All things around pairs on a floor: rows (answers for the first and the second ones, cases, pack, ..)."""
        floor = self._floors[number]
        for bay, pack, mine in zip(floor.bays, self._packs[number], pairs):
            if mine:
                yield from main_works(floor, bay, mine)
                yield from side_works(floor, bay, pack, mine)


def rows_of_mains(bay):
    """The rows of all main parts that its Taking keeps."""
    return [row for rows in bay.taking.mains.values() for row in rows]


def goods_apart(answers, cells, owners):
    """The goods that two Answers tell apart by some cells or by the results for some owners."""
    first, second = answers
    out = 0
    for cell in cells:
        out = out | (first.worths[cell] ^ second.worths[cell])
    for owner in owners:
        out = out | parting_bits(first.groups[owner], second.groups[owner])
    return out


def main_works(floor, bay, pairs):
    """The things whose main part is one of the pairs."""
    pack = PairPack(floor.bench, pairs)
    for many, sides in enumerate(bay.sides):
        cases = floor.cases(bay, many + 1)
        for some, each, _, numbers in sides if cases else []:
            side = (some, each)
            answers = [floor.bench.things(cases, many + 1, one, side) for one in (pack.first, pack.second)]
            yield answers, cases, pack, numbers, ()


def side_works(floor, bay, pack, pairs):
    """The things with one of the pairs beside their main part."""
    met = Unions()
    unions = Unions()
    for layer, first, second in pairs:
        looks = (look_of_record(floor.bench, first), look_of_record(floor.bench, second))
        if met.unite(looks[0], looks[1]):
            for many, some, each, numbers in rows_beside(floor, bay):
                both = [(some | look[0], each & look[1]) for look in looks]
                if unions.unite((many, both[0]), (many, both[1])):
                    cases = floor.cases(bay, many + 2)
                    answers = [floor.bench.things(cases, many + 2, pack, one) for one in both]
                    yield answers, cases, pack, numbers, (layer,)


def rows_beside(floor, bay):
    """The rows of parts beside a main part that leave room for one more: rows (their number, some, each, numbers)."""
    out = []
    for many, sides in enumerate(list(bay.sides[:-1])):
        if floor.cases(bay, many + 2):
            out.extend([(many, some, each, numbers) for some, each, _, numbers in sides])
    return out
