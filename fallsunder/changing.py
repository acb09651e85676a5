"""Into what the nodes of a good can be changed, each with the least price.

Of a node it is told what is asked of it at its depth: its record. A part may be exchanged by any good whose root the
thing above it takes, so that all that is asked of such goods is there for the price of an exchange.
"""

from fallsunder.answering import answers_of
from fallsunder.benches import lowest, parted_answers
from fallsunder.fillings import Filling, MainPack, cost_of, sides_beside
from fallsunder.goods import good_nodes
from fallsunder.growing import Grower
from fallsunder.surveys import Survey
from fallsunder.trees import multiplied


class Exchange:
    """The maker of a Filling for which the part itself is exchanged by a good of a survey."""

    def __init__(self, grower, making):
        self.grower = grower
        self.making = making


class Changer:
    """The tables of the nodes of a good: for each record a Filling whose cost is the least price.

    The maker of a Filling is an Exchange, `()` for a mix, or `(state, number of the main part)` for a thing. If the
    tables of parts need not be whole, what costs as much as an exchange of the part is left out.
    """

    def __init__(self, levels, good, prices, are_whole):
        self._levels = levels
        self._prices = prices
        self._are_whole = are_whole
        self._surveys = {}
        self._offers = {}
        self._known = {}
        self._keys = {}
        self.nodes = good_nodes(good)
        self.spots = list(good.places())
        self.tables = self._all_tables()

    def _all_tables(self):
        """The tables of all nodes, in the order of a walk; nodes that are changed alike have one table."""
        done = []
        tables = [{} for _ in self.nodes]
        for at in reversed(range(len(self.nodes))):
            node = self.nodes[at]
            below = []
            for _ in node:
                below.append(done.pop())
            key = self._key_of(node, len(self.spots[at]), below)
            if key not in self._known:
                self._known[key] = self._table_for(node, len(self.spots[at]), [self._known[part] for part in below])
            done.append(key)
            tables[at] = self._known[key]
        return tables

    def _key_of(self, node, depth, below):
        """A number for all that the table of a node hangs on."""
        word = (self._levels.level_of(depth), node.root, node.state, node.main, tuple(below))
        if not below:
            word = (*word, self._mix_record(node, depth))
        return self._keys.setdefault(word, len(self._keys))

    def _mix_record(self, node, depth):
        cells, owners = self._levels.asked_at(depth)
        bench = self._levels.bench_at(depth)
        values, told = answers_of(bench.sheet, bench.desks, node)
        bits = sum([1 << k for k, cell in enumerate(cells) if values[cell] == 1])
        return (bits, tuple([told[owner] for owner in owners]))

    def _table_for(self, node, depth, tables):
        if not tables:
            return {self._mix_record(node, depth): Filling(0, (), ())}
        needs = [self._needs_of(table, node.root, depth + 1) for table in tables]
        out = {}
        for main in [node.main, *[k for k in range(len(needs)) if k != node.main]]:
            self._take_mains(out, node, depth, needs, main)
        return out

    def _needs_of(self, table, root, depth):
        """What the thing above asks of a part that has this table, each with the cheapest Filling."""
        out = {}
        for record, filling in list(table.items()):
            need = self._levels.need_of(record, depth)
            if need not in out or out[need].cost > filling.cost:
                out[need] = filling
        for need, filling in list(self._offers_for(root, depth).items()):
            if need not in out or out[need].cost > filling.cost:
                out[need] = filling
        return out

    def _offers_for(self, root, depth):
        """What the goods are that a thing with this root takes, each for the price of an exchange."""
        level = self._levels.level_of(depth)
        takes = self._levels.stock[root][2]
        key = (level, self._levels.level_of(depth - 1), takes)
        if key not in self._offers:
            survey, grower = self._survey_at(depth)
            offers = {}
            for (name, bits, results), row in survey.rows.items():
                if name in takes:
                    need = self._levels.need_of((bits, results), depth)
                    offers.setdefault(need, Filling(self._prices.exchange, Exchange(grower, row[1]), ()))
            self._offers[key] = offers
        return self._offers[key]

    def _survey_at(self, depth):
        levels = self._levels
        at = levels.level_of(depth)
        if at not in self._surveys:
            survey = Survey(levels.stock, levels.sheet, levels.desks, levels.asked_at(depth), rooted=True)
            self._surveys[at] = (survey, Grower(survey))
        return self._surveys[at]

    def _take_mains(self, out, node, depth, needs, main):
        """Take up the things whose main part has this number."""
        bench = self._levels.bench_at(depth)
        turned = 0 if main == node.main else self._prices.reweigh
        others = [state for state in self._levels.stock.states if state != node.state]
        cases = [(node.root, state) for state in [node.state, *others]]
        pack = MainPack(bench, needs[main])
        sides = [(turned + cost_of(row), side, row) for side, row in sides_beside(bench, needs, (main,)).items()]
        for cost, side, row in sorted(sides, key=lambda entry: entry[0]):
            least = cost + pack.fillings[0].cost
            for goods, bits, results in self._rows_above(out, depth, least, (cases, pack, side, len(needs))):
                case, at, price = self._cheapest_of(pack, goods)
                if (bits, results) not in out or out[(bits, results)].cost > cost + price:
                    below = (*row[:main], pack.fillings[at], *row[main:])
                    out[(bits, results)] = Filling(cost + price, (cases[case][1], main), below)

    def _cheapest_of(self, pack, goods):
        """The case and the main part of the cheapest of some things, and its price; the own state is the first case."""
        wide = len(pack.needs)
        own = goods & (1 << wide) - 1
        case, at = (0, lowest(own)) if own else (-1, -1)
        price = pack.fillings[at].cost
        if own != goods:
            other, spot = pack.least_of(goods >> wide)
            more = pack.fillings[spot].cost + self._prices.restate
            if case < 0 or more < price:
                return (other + 1, spot, more)
        return (case, at, price)

    def _rows_above(self, out, depth, least, things):
        """The rows (goods, bits, results) of things that cost at least this, for which a table tells no such price."""
        if depth > 0 and not self._are_whole and least >= max(1, self._prices.exchange):
            return []
        bench = self._levels.bench_at(depth)
        cells, owners = self._levels.asked_at(depth)
        cases, pack, side, many = things
        answers = bench.things(cases, many, pack.pack, side)
        rows = parted_answers(answers, [(answers.full, 0)], cells, owners)
        return [row for row in rows if row[1:] not in out or out[row[1:]].cost > least]


def changed(changer, filling):
    """The plain good behind the change of the whole good that a Filling tells, and the deeds of the change."""
    deeds = []
    rows = []
    # a node within an exchanged part has no Filling of its own
    stack = [filling]
    for place, node in zip(changer.spots, changer.nodes):
        here = stack.pop()
        if here is None:
            stack.extend([None for _ in node])
        elif isinstance(here.maker, Exchange):
            offer = here.maker
            good = offer.grower.good_of(offer.making)
            deeds.append(("exchange", place, good.plain))
            rows.append((good.plain, -1, good.weight))
            stack.extend([None for _ in node])
        elif node.main < 0:
            rows.append((node.plain, -1, node.weight))
        else:
            state, main = here.maker
            deeds.extend([("restate", place, state)] if state != node.state else [])
            deeds.extend([("reweigh", place, main)] if main != node.main else [])
            rows.append(((node.root, state, node.land, node.many), main, 0))
            stack.extend(here.making[::-1])
    return (weighed(rows), tuple(deeds))


def weighed(rows):
    """The plain good whose nodes are told by rows in the order of a walk; main parts are multiplied until they are so.

    A row is `(head of a thing, number of its main part, 0)`, or `(plain good, -1, its weight)`.
    """
    done = []
    for head, main, load in rows[::-1]:
        if main < 0:
            done.append((head, load))
        else:
            parts = []
            for _ in range(head[3]):
                parts.append(done.pop())
            least = max([1, *[part[1] + (1 if k < main else 0) for k, part in enumerate(parts) if k != main]])
            by = -(-least // parts[main][1])
            if by > 1:
                parts[main] = (multiplied(parts[main][0], by), parts[main][1] * by)
            plain = (head[0], head[1], head[2], tuple([part[0] for part in parts]))
            done.append((plain, sum([part[1] for part in parts])))
    return done[0][0]
