"""Finds all that goods of a stock can be, each with a good of the fewest nodes that is so.

Sizes are taken in ascending order. Of a part a thing needs to know its record alone; of the parts beside the main
one, what some of them are and what each of them is. These are gathered as sides, one part after another.
"""

from heapq import heappop, heappush
from fallsunder.benches import Pack, parted_answers, starts_by


class Taking:
    """The forms that take the same roots, with the records, packs and sides from which their things are made."""

    def __init__(self, number, forms, takes):
        self.number = number
        self.forms = forms
        self.takes = takes
        self.reach = max([row[2] for row in forms]) - 1
        self.packs = {}
        self.others = {}
        self.sides = [{} for _ in range(self.reach + 1)]
        self.met_mains = {}
        self.met_others = {}
        self.met_sides = {}

    def cases(self, many, states):
        """The forms and states of things of so many parts."""
        return [(row[0], state) for row in self.forms if row[1] <= many <= row[2] for state in states]


class Survey:
    """All rows that goods have: a root (or `""`), a bit for each cell asked, and results by the owners asked.

    It stops where one of the wanted rows is found.
    """

    def __init__(self, bench, cells, owners, *, rooted=False, wanted=()):
        self.bench = bench
        self.rows = {}
        self.makings = []
        self.records = []
        self._cells = cells
        self._owners = owners
        self._rooted = rooted
        self._wanted = wanted
        self._met = {}
        self._ids = {}
        self._queue = []
        self._due = {}
        usable = bench.stock.usable()
        self._takings = takings_of([row for row in bench.stock.forms if row[0] in usable])
        self._states = states_asked(bench)
        self._roots = ["mix", *usable]
        self._reach = {root: reach_of(root, self._takings) for root in self._roots}
        self._run()

    def _run(self):
        self._plan(1)
        for taking in self._takings:
            taking.sides[0][0] = [(0, self.bench.each_mask, ())]
        while self._queue:
            size = heappop(self._queue)
            before = len(self.records)
            self._make(size)
            if any([row in self.rows for row in self._wanted]):
                return
            for taking in self._takings:
                self._file(taking, size, before)
                self._widen(taking, size)

    def _plan(self, size):
        if size not in self._due:
            self._due[size] = True
            heappush(self._queue, size)

    def _make(self, size):
        """Find what goods of this size are."""
        if size == 1:
            answers = self.bench.mixes()
            self._keep(answers, [("mix", "")], len(self.bench.mixtures), size, ())
        for taking in self._takings:
            for others, table in enumerate(taking.sides):
                cases = taking.cases(others + 1, self._states)
                for total, sides in table.items():
                    pack = taking.packs.get(size - 1 - total)
                    for side in sides if pack is not None and cases else []:
                        answers = self.bench.things(cases, others + 1, pack, side)
                        self._keep(answers, cases, len(pack.ids), size, (pack.ids, side[2]))

    def _keep(self, answers, cases, wide, size, parts):
        """Keep what is new in some answers, each with the making of a good that is so."""
        starts = starts_by([self._roots.index(case[0]) if self._rooted else 0 for case in cases], wide)
        for goods, number, results in parted_answers(answers, starts, self._cells, self._owners):
            if (number, results) not in self._met:
                self._met[(number, results)] = True
                bits = number & (1 << len(self._cells)) - 1
                root = self._roots[number >> len(self._cells)] if self._rooted else ""
                self.rows[(root, bits, results)] = (size, making_at(first_bit(goods), cases, wide, parts))
        starts = [row for row in starts_by([self._reach[case[0]] for case in cases], wide) if row[1] > 0]
        for goods, number, results in parted_answers(answers, starts, self.bench.cells, self.bench.keepers):
            if (number, results) not in self._ids:
                self._ids[(number, results)] = len(self.records)
                many = len(self.bench.cells)
                self.records.append((number >> many, number & (1 << many) - 1, results))
                self.makings.append((size, making_at(first_bit(goods), cases, wide, parts)))

    def _file(self, taking, size, before):
        """File the new records from one on that these forms take."""
        mains = []
        others = []
        for number in range(before, len(self.records)):
            reach, bits, results = self.records[number]
            if reach >> taking.number & 1:
                if (bits, results) not in taking.met_mains:
                    taking.met_mains[(bits, results)] = True
                    mains.append(number)
                look = (bits & self.bench.some_mask, bits & self.bench.each_mask)
                if look not in taking.met_others:
                    taking.met_others[look] = True
                    others.append((*look, number))
        if mains:
            records = [self.records[number][1:] for number in mains]
            taking.packs[size] = Pack(self.bench, mains, records)
            for table in taking.sides:
                for total in table:
                    self._plan(size + total + 1)
        if others and taking.reach > 0:
            taking.others[size] = others
            for table in taking.sides[:-1]:
                for total in table:
                    self._plan(size + total)

    def _widen(self, taking, size):
        """Add one part to sides where that makes up this size."""
        for many in range(1, taking.reach + 1):
            fresh = []
            for total, sides in taking.sides[many - 1].items():
                for side in sides if size - total in taking.others else []:
                    fresh.extend(wider_sides(taking, many, side, taking.others[size - total]))
            if fresh:
                taking.sides[many][size] = fresh
                self._plan_sides(taking, many, size)

    def _plan_sides(self, taking, many, size):
        for other in taking.packs:
            self._plan(size + other + 1)
        if many < taking.reach:
            for other in taking.others:
                self._plan(size + other)


def wider_sides(taking, many, side, others):
    """The sides of so many parts, not met before, that one more part makes of a side."""
    out = []
    for some, each, number in others:
        look = (many, side[0] | some, side[1] & each)
        if look not in taking.met_sides:
            taking.met_sides[look] = True
            out.append((look[1], look[2], (*side[2], number)))
    return out


def takings_of(forms):
    """Some forms by what they take."""
    rows = {}
    for form in forms:
        rows.setdefault(tuple(sorted(form[3])), []).append(form)
    return [Taking(number, some, takes) for number, (takes, some) in enumerate(rows.items())]


def reach_of(root, takings):
    """A bit for each of these that takes the root."""
    return sum([1 << taking.number for taking in takings if root in taking.takes])


def states_asked(bench):
    """The states that terms ask for, and one of the others."""
    asked = [about for _, word, about in bench.sheet.simple if word == "state"]
    other = [state for state in bench.stock.states if state not in asked]
    return [state for state in bench.stock.states if state in asked or state in other[:1]]


def first_bit(bits):
    """The number of the least bit."""
    return (bits & -bits).bit_length() - 1


def making_at(at, cases, wide, parts):
    """How the good of one bit is made: the number of a mixture, or `(form, state, main part, other parts)`."""
    if not parts:
        return (at,)
    form, state = cases[at // wide]
    return (form, state, parts[0][at % wide], parts[1])
