"""The fillings of an open good, as a book and some terms ask of them.

At each depth of the open good less and less is asked of a node: its record. For each record of a node the smallest
filling is kept.
"""

from math import gcd
from fallsunder.answering import answers_of
from fallsunder.benches import Pack, look_of_record, lowest, parted_answers
from fallsunder.desks import Desk
from fallsunder.goods import sound_good
from fallsunder.growing import Grower
from fallsunder.levels import Levels
from fallsunder.opencheck import is_open, node_at
from fallsunder.slimming import SlimSheet
from fallsunder.surveys import Survey
from fallsunder.trees import multiplied


class Filling:
    """A filling of a node, its cost being its nodes (or a price); maker and making tell how its good is made.

    The maker is a Grower for an open term, the plain mix, or the head `(form, state, land, main)` of a thing; the
    making is that of a survey, or the Fillings of the parts.
    """

    def __init__(self, cost, maker, making):
        self.cost = cost
        self.maker = maker
        self.making = making


class Filler(Levels):
    """Finds the fillings of an open good that a book and some terms tell apart."""

    def __init__(self, book, plain, terms):
        sheet = SlimSheet()
        desks = {0: Desk(sheet, 0, book)}
        cells = tuple([sheet.cell_of(term.plain, -1) for term in terms])
        super().__init__(book.stock, sheet, desks, (cells, (0,)))
        self.plain = plain
        self._rows = {}
        self._known = {}

    def fillings_at(self, place):
        """The Fillings of the node at a place, by their records."""
        if place not in self._rows:
            node = node_at(self.plain, place)
            if node[0] == "open":
                self._rows[place] = self._open_fillings(node, place)
            elif node[0] == "mix":
                self._rows[place] = self._mix_filling(node, len(place))
            else:
                self._rows[place] = self._thing_fillings(node, place)
        return self._rows[place]

    def needed_at(self, place):
        """The Fillings of the node at a place, by what the Bench above asks of them."""
        out = {}
        for record, filling in self.fillings_at(place).items():
            need = self.need_of(record, len(place))
            if need not in out or out[need].cost > filling.cost:
                out[need] = filling
        return out

    def _open_fillings(self, node, place):
        takes = self.stock[node_at(self.plain, place[:-1])[0]][2] if place else None
        key = (self.sheet.cell_of(node[1], -1), self.level_of(len(place)), takes)
        if key not in self._known:
            self._known[key] = self._kept_by(key[0], self.asked_at(len(place)), takes)
        return self._known[key]

    def _kept_by(self, keeps, asked, takes):
        """The Fillings of a cell: the goods that keep it, with a root that is taken."""
        cells, owners = asked
        survey = Survey(self.stock, self.sheet, self.desks, ((*cells, keeps), owners), rooted=True)
        grower = Grower(survey)
        out = {}
        for (root, bits, results), (size, making) in survey.rows.items():
            if bits >> len(cells) & 1 and (takes is None or root in takes):
                record = (bits & (1 << len(cells)) - 1, results)
                if record not in out or out[record].cost > size:
                    out[record] = Filling(size, grower, making)
        return out

    def _mix_filling(self, node, depth):
        bench = self.bench_at(depth)
        cells, owners = self.asked_at(depth)
        by = 0
        for _, worth in node[2]:
            by = gcd(by, worth)
        plain = ("mix", node[1], tuple([(stuff, worth // by) for stuff, worth in node[2]]))
        values, told = answers_of(bench.sheet, bench.desks, sound_good(self.stock, plain))
        bits = sum([1 << k for k, cell in enumerate(cells) if values[cell] == 1])
        return {(bits, tuple([told[owner] for owner in owners])): Filling(1, plain, ())}

    def _thing_fillings(self, node, place):
        bench = self.bench_at(len(place))
        asked = self.asked_at(len(place))
        cases = [(node[0], state) for state in states_of(self.stock, node)]
        parts = [self.needed_at((*place, k)) for k in range(len(node[4]))]
        out = {}
        for main in mains_of(node):
            pack = MainPack(bench, parts[main])
            sides = sides_beside(bench, parts, (main,)) if pack.needs else {}
            for side, others in sides.items():
                answers = bench.things(cases, len(parts), pack.pack, side)
                for goods, bits, results in parted_answers(answers, [(answers.full, 0)], asked[0], asked[1]):
                    case, at = pack.least_of(goods)
                    nodes = 1 + pack.fillings[at].cost + sum([filling.cost for filling in others])
                    if (bits, results) not in out or out[(bits, results)].cost > nodes:
                        below = (*others[:main], pack.fillings[at], *others[main:])
                        out[(bits, results)] = Filling(nodes, (*cases[case], node[2], main), below)
        return out

    def good_of(self, filling):
        """The Good of a Filling."""
        return sound_good(self.stock, self._plain_of(filling)[0])

    def _plain_of(self, filling):
        """The plain good of a Filling, and its weight."""
        if isinstance(filling.maker, Grower):
            grower = filling.maker
            good = grower.good_of(filling.making)
            return (good.plain, good.weight)
        if filling.maker[0] == "mix":
            return (filling.maker, sum([worth for _, worth in filling.maker[2]]))
        form, state, land, main = filling.maker
        parts = [self._plain_of(part) for part in filling.making]
        least = max([1, *[row[1] + (1 if k < main else 0) for k, row in enumerate(parts) if k != main]])
        by = -(-least // parts[main][1])
        parts[main] = (multiplied(parts[main][0], by), parts[main][1] * by)
        return ((form, state, land, tuple([row[0] for row in parts])), sum([row[1] for row in parts]))


class MainPack:
    """A Pack of the needs of some possible main parts, from the smallest to the greatest."""

    def __init__(self, bench, needs):
        rows = sorted(list(needs.items()), key=lambda row: row[1].cost)
        self.needs = [need for need, _ in rows]
        self.fillings = [filling for _, filling in rows]
        self.pack = Pack(bench, list(range(len(rows))), self.needs)

    def least_of(self, goods):
        """The case and the number of the smallest main part among some things."""
        wide = len(self.needs)
        least = (-1, wide)
        case = 0
        while goods:
            block = goods & (1 << wide) - 1
            if block and lowest(block) < least[1]:
                least = (case, lowest(block))
            goods = goods >> wide
            case += 1
        return least


def states_of(stock, node):
    """The states that a thing told in part may have."""
    return list(stock.states) if is_open(node[1]) else [node[1]]


def mains_of(node):
    """The numbers that the main part of a thing told in part may have."""
    return list(range(len(node[4]))) if is_open(node[3]) else [node[3]]


def sides_beside(bench, parts, without):
    """What parts can be beside some others: for each side the smallest Fillings of these parts, in their order."""
    sides = {(0, bench.each_mask): ()}
    for k, needs in enumerate(parts):
        if k not in without:
            sides = wider_fillings(bench, sides, needs)
    return sides


def wider_fillings(bench, sides, needs):
    """The sides with one more part."""
    looks = {}
    for need, filling in needs.items():
        look = look_of_record(bench, need)
        if look not in looks or looks[look].cost > filling.cost:
            looks[look] = filling
    out = {}
    for (some, each), others in sides.items():
        for (more, every), filling in looks.items():
            side = (some | more, each & every)
            row = (*others, filling)
            if side not in out or cost_of(out[side]) > cost_of(row):
                out[side] = row
    return out


def cost_of(fillings):
    """The costs of some Fillings together."""
    return sum([filling.cost for filling in fillings])
