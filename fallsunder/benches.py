"""Asks the terms and books of a sheet of many mixes, or of many things, at once.

What a thing needs to know of a part is a record: `(bits, results)`, a bit for each cell that part signs and shares
ask for, and a result by each book (a keeper) in whose rules the main part matters.
"""

from fallsunder.desks import split_by
from fallsunder.mixcells import mixture_cells
from fallsunder.sheets import work_falls, work_out


class Pack:
    """Records of possible main parts, turned: for each cell and each result those that have it."""

    def __init__(self, bench, ids, records):
        self.ids = ids
        self.columns = columns_of(bench, [record[0] for record in records])
        self.mains = {owner: result_columns(records, k) for k, owner in enumerate(bench.keepers)}
        self.somes = self.columns
        self.eachs = self.columns


class Crowd(Pack):
    """Things told by rows `(record of the main part, some, each)`: what some of all parts are, and each of them is."""

    def __init__(self, bench, rows):
        super().__init__(bench, list(range(len(rows))), [row[0] for row in rows])
        self.somes = columns_of(bench, [row[1] for row in rows])
        self.eachs = columns_of(bench, [row[2] for row in rows])


class Answers:
    """The worths of all cells, and the results by all books, for some goods; full is the bits of all of them."""

    def __init__(self, full, values, groups):
        self.full = full
        self.worths = values
        self.groups = groups


class Bench:
    """A sheet and its desks over a stock."""

    def __init__(self, stock, sheet, desks):
        self.stock = stock
        self.sheet = sheet
        self.desks = desks
        self.keepers = [owner for owner, desk in desks.items() if desk.asks_main()]
        self.somes = sheet.marked("some")
        self.eachs = sheet.marked("each")
        looked = {cell: True for cell in [*self.somes, *self.eachs, *sheet.marked("main"), *sheet.shares]}
        self.cells = sorted(looked)
        self.bit_of = {cell: 1 << k for k, cell in enumerate(self.cells)}
        self.some_mask = sum([self.bit_of[cell] for cell in self.somes])
        self.each_mask = sum([self.bit_of[cell] for cell in self.eachs])
        heads = [*sheet.marked("main"), *sheet.shares]
        self.head_mask = sum([bit for cell, bit in self.bit_of.items() if cell in heads])
        self.mixtures = mixture_cells(stock.stuffs, [sheet.cells[cell] for cell in sheet.shares])
        self._simple = {}

    def mixes(self):
        """The answers for the mixtures, one for each."""
        full = (1 << len(self.mixtures)) - 1
        values = [0 for _ in self.sheet.cells]
        for number, word, _ in self.sheet.simple:
            values[number] = full if word in ("any", "mix") else 0
        for k, number in enumerate(self.sheet.shares):
            values[number] = sum([1 << at for at, row in enumerate(self.mixtures) if row[0][k]])
        for number, word, _ in self.sheet.looks:
            values[number] = full if word == "each" else 0
        return self._answers(full, values, {owner: [(full, "")] for owner in self.desks})

    def things(self, cases, many, pack, side):
        """The answers for things of so many parts: for each case, a form and a state, each main part of the pack.

        A side begins with two rows of bits: what some of the other parts are, and what each of them is.
        """
        wide = len(pack.ids)
        full = (1 << len(cases) * wide) - 1
        spread = repeated(len(cases), wide)
        values = list(self._simple_values(cases, many, wide))
        for number in self.sheet.shares:
            values[number] = pack.columns[number] * spread
        for number, word, inner in self.sheet.looks:
            if word == "main":
                values[number] = pack.columns[inner] * spread
            elif word == "some":
                values[number] = full if side[0] & self.bit_of[inner] else pack.somes[inner] * spread
            else:
                values[number] = pack.eachs[inner] * spread if side[1] & self.bit_of[inner] else 0
        mains = {owner: [(full, "")] for owner in self.desks}
        for owner in self.keepers:
            mains[owner] = [(bits * spread, name) for bits, name in pack.mains[owner]]
        return self._answers(full, values, mains)

    def _simple_values(self, cases, many, wide):
        key = (tuple(cases), many, wide)
        if key not in self._simple:
            values = [0 for _ in self.sheet.cells]
            block = (1 << wide) - 1
            full = (1 << len(cases) * wide) - 1
            for number, word, about in self.sheet.simple:
                if word in ("form", "state"):
                    at = 0 if word == "form" else 1
                    values[number] = sum([block << k * wide for k, case in enumerate(cases) if case[at] == about])
                elif word == "any" or (word == "parts" and many >= about):
                    values[number] = full
            self._simple[key] = values
        return self._simple[key]

    def _answers(self, full, values, mains):
        work_out(values, full, self.sheet.early)
        groups = {}
        for owner, desk in self.desks.items():
            groups[owner] = desk.results_of(values, full, mains[owner])
        work_falls(self.sheet, self.desks, values, groups)
        work_out(values, full, self.sheet.late)
        return Answers(full, values, groups)


def look_of_record(bench, record):
    """What is asked of a part beside the main one: what some of the parts are, and what each of them is."""
    return (record[0] & bench.some_mask, record[0] & bench.each_mask)


def lowest(goods):
    """The number of the first of some goods, told by bits."""
    return (goods & -goods).bit_length() - 1


def repeated(many, wide):
    """The first bit of each of so many blocks that are so wide."""
    return sum([1 << k * wide for k in range(many)])


def columns_of(bench, rows):
    """For each cell the bits of those of some rows of bits that have the bit of the cell."""
    wide = len(bench.cells)
    # the first row stands last, as the first bit of a number stands last in its text
    text = "".join([f"{bits:b}".zfill(wide) for bits in rows[::-1]]) if wide > 0 else ""
    return {cell: int("0" + text[wide - 1 - k::wide], 2) for k, cell in enumerate(bench.cells)}


def result_columns(records, k):
    """For each result number k of the records, the bits of those that have it."""
    out = {}
    for at, record in enumerate(records):
        name = record[1][k]
        out[name] = out.get(name, 0) | 1 << at
    return [(bits, name) for name, bits in out.items()]


def parted_answers(answers, starts, cells, owners):
    """Part goods by the worths of cells and the results by books: rows of `(goods, number, results)`.

    They are parted already into starts `(goods, tag)`; a number is the tag with the bits of the cells behind it.
    """
    full = answers.full
    same = sum([1 << k for k, cell in enumerate(cells) if answers.worths[cell] == full])
    groups = [(goods, tag << len(cells) | same) for goods, tag in starts]
    for k, cell in enumerate(cells):
        column = answers.worths[cell]
        if column not in (0, full):
            groups = split_by(groups, column, 1 << k)
    rows = [(goods, number, ()) for goods, number in groups]
    for owner in owners:
        rows = [(goods & some, number, (*results, name)) for goods, number, results in rows
                for some, name in answers.groups[owner] if goods & some]
    return rows


def paired_rows(answers, starts, cells, owners):
    """Part goods by two Answers at once: rows `(goods, tag, record by the first one, record by the second one)`."""
    many = len(cells)
    mask = (1 << many) - 1
    firsts = parted_answers(answers[0], starts, cells, owners)
    again = [(row[0], number) for number, row in enumerate(firsts)]
    out = []
    for goods, number, names in parted_answers(answers[1], again, cells, owners):
        _, ahead, results = firsts[number >> many]
        out.append((goods, ahead >> many, (ahead & mask, results), (number & mask, names)))
    return out


def starts_by(tags, wide):
    """The goods of some cases, so many for each, by the tags of the cases."""
    out = {}
    block = (1 << wide) - 1
    for k, tag in enumerate(tags):
        out[tag] = out.get(tag, 0) | block << k * wide
    return [(goods, tag) for tag, goods in out.items()]
