"""Does what stands at one open place of an open good change its result?

Two fillings that differ at this place alone are followed upwards, as pairs of what is asked of them, to the good
itself. Since what stands at each open place is free, a result hangs on some open places alone if and only if no other
place changes it.
"""

from fallsunder.benches import Pack, look_of_record, lowest, paired_rows, parted_answers
from fallsunder.fillings import Filling, MainPack, mains_of, sides_beside, states_of
from fallsunder.opencheck import node_at


class Sway:
    """Looks for two fillings with two results that differ at one open place alone."""

    def __init__(self, filler):
        self._filler = filler

    def fillings_apart(self, blank):
        """Two Fillings that differ at this open place alone, with two results; None if there are none."""
        word, place = blank
        if word == "part":
            pairs = self._part_pairs(place)
        elif word == "state":
            pairs = self._state_pairs(place)
        else:
            pairs = self._main_pairs(place)
        while place != ():
            pairs = self._pairs_above(place, pairs)
            place = place[:-1]
        return None if not pairs else list(pairs.values())[0]

    def _part_pairs(self, place):
        """The first filling with each other one; where these have one result, all have one."""
        rows = list(self._filler.fillings_at(place).items())
        return {(rows[0][0], record): (rows[0][1], filling) for record, filling in rows[1:]}

    def _parts_of(self, place, node):
        return [self._filler.needed_at((*place, k)) for k in range(len(node[4]))]

    def _state_pairs(self, place):
        """Things that have the first state with those that have another one."""
        filler = self._filler
        node = node_at(filler.plain, place)
        bench = filler.bench_at(len(place))
        parts = self._parts_of(place, node)
        states = states_of(filler.stock, node)
        out = {}
        for main in mains_of(node):
            pack = MainPack(bench, parts[main])
            sides = sides_beside(bench, parts, (main,)) if pack.needs else {}
            for side, others in sides.items():
                first = bench.things([(node[0], states[0])], len(parts), pack.pack, side)
                for state in states[1:]:
                    answers = (first, bench.things([(node[0], state)], len(parts), pack.pack, side))
                    for at, records in self._rows_apart(answers, len(place)):
                        below = placed(others, {main: pack.fillings[at]})
                        heads = [(node[0], name, node[2], main) for name in (states[0], state)]
                        out.setdefault(records, tuple([Filling(0, head, below) for head in heads]))
                    if is_enough(out, len(place)):
                        return out
        return out

    def _rows_apart(self, answers, depth):
        """The records by two Answers that differ: rows (number of a good that has them, (first, second))."""
        cells, owners = self._filler.asked_at(depth)
        rows = paired_rows(answers, [(answers[0].full, 0)], cells, owners)
        return [(lowest(goods), (first, second)) for goods, _, first, second in rows if first != second]

    def _main_pairs(self, place):
        """Things whose first part is the main one with those of which it is another one.

        All things with one row of parts beside these two, and the same looks of the two, go together: the first of
        each kind stands for them.
        """
        filler = self._filler
        node = node_at(filler.plain, place)
        parts = self._parts_of(place, node)
        bench = filler.bench_at(len(place))
        asked = filler.asked_at(len(place))
        turns = [Turn(bench, asked, needs, len(parts)) for needs in parts]
        out = {}
        for k in range(1, len(parts)):
            for side, others in sides_beside(bench, parts, (0, k)).items():
                for one in list(turns[0].looks):
                    for two in list(turns[k].looks):
                        for state in states_of(filler.stock, node):
                            first = turns[0].things_of((node[0], state), joined_sides(side, two), one)
                            second = turns[k].things_of((node[0], state), joined_sides(side, one), two)
                            self._take_turned(out, (node[0], state, node[2]), (0, k), others, (first, second))
                        if is_enough(out, len(place)):
                            return out
        return out

    def _take_turned(self, out, head, mains, others, rows):
        """Take up the pairs of things in which one of two parts is the main one, and then the other one."""
        pairs = [(rows[0][0], row) for row in rows[1]] + [(row, rows[1][0]) for row in rows[0]]
        for (first, one), (second, two) in pairs:
            if first != second and (first, second) not in out:
                below = placed(others, {mains[0]: one, mains[1]: two})
                out[(first, second)] = tuple([Filling(0, (*head, main), below) for main in mains])

    def _pairs_above(self, place, pairs):
        """What pairs at a place make of the thing above it."""
        filler = self._filler
        node = node_at(filler.plain, place[:-1])
        holes = {}
        for (first, second), fillings in pairs.items():
            needs = (filler.need_of(first, len(place)), filler.need_of(second, len(place)))
            if needs[0] != needs[1]:
                holes.setdefault(needs, fillings)
        out = {}
        if holes:
            parts = self._parts_of(place[:-1], node)
            for main in mains_of(node):
                if main == place[len(place) - 1]:
                    self._take_mains(out, node, len(place) - 1, parts, main, holes)
                else:
                    self._take_beside(out, node, place, parts, main, holes)
        return out

    def _take_mains(self, out, node, depth, parts, main, holes):
        """Take up the things whose main part is one of the pairs."""
        bench = self._filler.bench_at(depth)
        numbers = list(range(len(holes)))
        packs = [Pack(bench, numbers, [needs[k] for needs in holes]) for k in (0, 1)]
        rows = list(holes.values())
        for side, others in sides_beside(bench, parts, (main,)).items():
            for state in states_of(self._filler.stock, node):
                answers = [bench.things([(node[0], state)], len(parts), pack, side) for pack in packs]
                for at, records in self._rows_apart(answers, depth):
                    head = (node[0], state, node[2], main)
                    made = [Filling(0, head, placed(others, {main: filling})) for filling in rows[at]]
                    out.setdefault(records, tuple(made))
                if is_enough(out, depth):
                    return

    def _take_beside(self, out, node, place, parts, main, holes):
        """Take up the things with one of the pairs beside their main part."""
        depth = len(place) - 1
        bench = self._filler.bench_at(depth)
        hole = place[depth]
        pack = MainPack(bench, parts[main])
        looks = {}
        for (first, second), fillings in holes.items():
            pair = (look_of_record(bench, first), look_of_record(bench, second))
            if pair[0] != pair[1]:
                looks.setdefault(pair, fillings)
        sides = sides_beside(bench, parts, (hole, main)) if pack.needs else {}
        for side, others in sides.items():
            for pair, fillings in looks.items():
                both = [joined_sides(side, look) for look in pair]
                for state in states_of(self._filler.stock, node):
                    answers = [bench.things([(node[0], state)], len(parts), pack.pack, one) for one in both]
                    for at, records in self._rows_apart(answers, depth):
                        head = (node[0], state, node[2], main)
                        made = [Filling(0, head, placed(others, {main: pack.fillings[at], hole: filling}))
                                for filling in fillings]
                        out.setdefault(records, tuple(made))
                    if is_enough(out, depth):
                        return


class Turn:
    """The things whose main part is one of some needs, by what is asked of it where it is not the main part."""

    def __init__(self, bench, asked, needs, many):
        self._bench = bench
        self._asked = asked
        self._many = many
        self._pack = MainPack(bench, needs)
        looks = {}
        for at, need in enumerate(self._pack.needs):
            look = look_of_record(bench, need)
            looks[look] = looks.get(look, 0) | 1 << at
        self.looks = looks
        self._known = {}

    def things_of(self, case, side, look):
        """The records of such things beside a side, the main part having this look: rows (record, Filling)."""
        if (case, side) not in self._known:
            answers = self._bench.things([case], self._many, self._pack.pack, side)
            names = list(self.looks)
            starts = [(goods, at) for at, goods in enumerate(list(self.looks.values()))]
            many = len(self._asked[0])
            table = {name: [] for name in names}
            for goods, number, results in parted_answers(answers, starts, self._asked[0], self._asked[1]):
                record = (number & (1 << many) - 1, results)
                table[names[number >> many]].append((record, self._pack.fillings[lowest(goods)]))
            self._known[(case, side)] = table
        return self._known[(case, side)][look]


def is_enough(out, depth):
    """Is one pair enough? Two records of the good itself that differ are two results."""
    return depth == 0 and out != {}


def placed(others, given):
    """Some Fillings in their order, with those that are given at their numbers."""
    out = []
    left = list(others)
    for k in range(len(others) + len(given)):
        out.append(given[k] if k in given else left.pop(0))
    return tuple(out)


def joined_sides(side, look):
    """A side with one more part."""
    return (side[0] | look[0], side[1] & look[1])
