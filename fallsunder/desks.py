"""How a book comes to its results, once the worths of its terms are told."""


class Desk:
    """A book at work over the cells of a sheet; its owner is the number by which its `falls` are known there."""

    def __init__(self, sheet, owner, book):
        self.owner = owner
        self.rules = book.rules
        self._ladder = book.ladder
        parents = [row[1] for row in book.headings]
        self.titles = [row[0] for row in book.headings]
        self.last_ones = [k for k, name in enumerate(self.titles) if name not in parents]
        self._above = [self.titles.index(name) if name != "" else -1 for name in parents]
        self._own = [sheet.cell_of(row[2], owner) for row in book.headings]
        self._noted = [sheet.cell_of(row[2], owner) for row in book.notes]
        self.own_cells = [*self._own, *self._noted]
        # the numbers of the notes, for each heading those that take and those that shut
        self._takes = [note_numbers(book.notes, name, "takes") for name in self.titles]
        self._shuts = [note_numbers(book.notes, name, "shuts") for name in self.titles]
        self._sends = [(self.titles.index(row[0]), number, self.titles.index(row[3]))
                       for number, row in enumerate(book.notes) if row[1] == "sends"]
        self.leaves_under = {name: self._leaves_below(at) for at, name in enumerate(self.titles)}
        self._told = {}

    def _leaves_below(self, at):
        """The names of the leaves beneath a heading, as the keys of a dict."""
        return {self.titles[leaf]: True for leaf in self.last_ones if at in self.line_at(leaf)}

    def line_at(self, at):
        """The numbers of the headings of a line, from the outermost down to this one."""
        line = []
        while at >= 0:
            line.append(at)
            at = self._above[at]
        return line[::-1]

    def asks_main(self):
        """Can the result of the main part matter?"""
        return "main" in self.rules

    def result_of(self, values, main):
        """The result of one good, its main part having this result."""
        fitting, sent = self._signs_of(values)
        return self._outcome(fitting, sent, main)

    def tale_of(self, values, main):
        """How one good comes to its result: `(leaves that fit, steps, leaves left, notes that send it on)`.

        Leaves are told by their numbers among the headings, notes as rows (leaf, number of the note, target).
        """
        fitting, sent = self._signs_of(values)
        fits = self._leaves_of(fitting)
        steps = self.steps_from(fits, main)
        left = steps[len(steps) - 1][1] if steps else fits
        return (fits, steps, left, self.way_from(left[0], sent) if len(left) == 1 else [])

    def results_of(self, values, full, mains):
        """The results of many goods, rows of (goods, result); mains are such rows for their main parts."""
        told = self.notes_told(values)
        fits = self._fitting(values, told, full)
        groups = parted([(full, 0)], [fits[leaf] for leaf in self.last_ones])
        sends = parted([(full, 0)], [told[row[1]] for row in self._sends])
        mains = mains if self.asks_main() else [(full, "")]
        out = {}
        for bits, fitting in groups:
            for some, sent in sends:
                both = bits & some
                for few, main in mains if both else []:
                    if both & few:
                        result = self._outcome(fitting, sent, main)
                        out[result] = out.get(result, 0) | both & few
        return [(bits, result) for result, bits in out.items()]

    def notes_told(self, values):
        """For each note the goods of which its term is true."""
        return [values[cell] for cell in self._noted]

    def _signs_of(self, values):
        """For one good, a bit for each leaf that fits it, and one for each note that can send it on."""
        told = self.notes_told(values)
        fits = self._fitting(values, told, 1)
        fitting = sum([1 << k for k, leaf in enumerate(self.last_ones) if fits[leaf] == 1])
        return (fitting, sum([1 << k for k, row in enumerate(self._sends) if told[row[1]] == 1]))

    def _fitting(self, values, told, full):
        """For each heading the goods that it fits."""
        fits = []
        for at, above in enumerate(self._above):
            taken = values[self._own[at]]
            for number in self._takes[at]:
                taken = taken | told[number]
            for number in self._shuts[at]:
                taken = taken & (full ^ told[number])
            fits.append(taken & fits[above] if above >= 0 else taken)
        return fits

    def _outcome(self, fitting, sent, main):
        key = (fitting, sent, main)
        if key not in self._told:
            self._told[key] = self._find(fitting, sent, main)
        return self._told[key]

    def _leaves_of(self, fitting):
        return [leaf for k, leaf in enumerate(self.last_ones) if fitting >> k & 1]

    def _find(self, fitting, sent, main):
        left = self._leaves_of(fitting)
        for _, behind in self.steps_from(left, main):
            left = behind
        if not left:
            return "none"
        if len(left) > 1:
            return "two"
        way = self.way_from(left[0], sent)
        if not way:
            return self.titles[left[0]]
        last = way[len(way) - 1][2]
        return "ring" if last in [row[0] for row in way] else self.titles[last]

    def steps_from(self, left, main):
        """The rules that are used on these leaves, rows of (rule, leaves left behind it)."""
        out = []
        for rule in self.rules:
            if len(left) > 1:
                left = self._behind_rule(rule, left, main)
                out.append((rule, left))
        return out

    def _behind_rule(self, rule, left, main):
        if rule == "first":
            return left[:1]
        if rule == "last":
            return left[-1:]
        if rule == "main":
            kept = [leaf for leaf in left if self.titles[leaf] == main]
            return kept if kept else left
        return [leaf for leaf in left if not any([self._ladder.is_narrower(k, leaf) for k in left if k != leaf])]

    def way_from(self, leaf, sent):
        """How a good is sent on from a leaf: rows of (leaf, number of the note, target); the last may close a ring."""
        way = []
        at = leaf
        while at not in [row[0] for row in way]:
            follows = [row for k, row in enumerate(self._sends) if row[0] == at and sent >> k & 1]
            if not follows:
                return way
            way.append(follows[0])
            at = follows[0][2]
        return way


def note_numbers(notes, name, word):
    """The numbers of the notes of this heading with this word."""
    return [number for number, row in enumerate(notes) if row[0] == name and row[1] == word]


def parted(groups, columns):
    """Part groups of goods by columns: rows of (goods, number), a bit of the number for each column."""
    for k, column in enumerate(columns):
        groups = split_by(groups, column, 1 << k)
    return groups


def split_by(groups, column, bit):
    """Part groups `(goods, number)` by one column; those inside it get the bit."""
    out = []
    for goods, number in groups:
        inside = goods & column
        if inside:
            out.append((inside, number | bit))
        if inside != goods:
            out.append((goods ^ inside, number))
    return out
