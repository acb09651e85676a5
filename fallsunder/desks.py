"""How a book comes to its results, once the worths of its terms are told."""


class Desk:
    """A book at work over the cells of a sheet; its owner is the number by which its `falls` are known there."""

    def __init__(self, sheet, owner, book):
        self.owner = owner
        self.rules = book.rules
        self._ladder = book.ladder
        parents = [row[1] for row in book.headings]
        self.titles = [row[0] for row in book.headings]
        self.ends = [k for k, name in enumerate(self.titles) if name not in parents]
        self._above = [self.titles.index(name) if name != "" else -1 for name in parents]
        takes = [[sheet.cell_of(row[2], owner)] for row in book.headings]
        shuts = [[] for _ in book.headings]
        sends = []
        for heading, word, plain, target in list(book.notes):
            at = self.titles.index(heading)
            cell = sheet.cell_of(plain, owner)
            if word == "takes":
                takes[at].append(cell)
            elif word == "shuts":
                shuts[at].append(cell)
            else:
                sends.append((at, cell, self.titles.index(target)))
        self._takes = takes
        self._shuts = shuts
        self._sends = sends
        inner = [*takes, *shuts, [row[1] for row in sends]]
        self.own_cells = [cell for cells in inner for cell in cells]
        self.leaves_under = {name: self._leaves_below(at) for at, name in enumerate(self.titles)}
        self._told = {}

    def _leaves_below(self, at):
        """The names of the leaves beneath a heading, as the keys of a dict."""
        return {self.titles[leaf]: True for leaf in self.ends if at in self.line_at(leaf)}

    def line_at(self, at):
        """The numbers of the headings of a line, from the outermost down to this one."""
        line = []
        while at >= 0:
            line.append(at)
            at = self._above[at]
        return line[::-1]

    def asks_main(self):
        """Can the result of the main part matter?"""
        return "main" in self.rules

    def result_of(self, values, main):
        """The result of one good, its main part having this result."""
        fits = self._fitting(values, 1)
        fitting = sum([1 << k for k, leaf in enumerate(self.ends) if fits[leaf] == 1])
        sent = sum([1 << k for k, note in enumerate(self._sends) if values[note[1]] == 1])
        return self._outcome(fitting, sent, main)

    def results_of(self, values, full, mains):
        """The results of many goods, rows of (goods, result); mains are such rows for their main parts."""
        fits = self._fitting(values, full)
        groups = parted([(full, 0)], [fits[leaf] for leaf in self.ends])
        sends = parted([(full, 0)], [values[note[1]] for note in self._sends])
        mains = mains if self.asks_main() else [(full, "")]
        out = {}
        for bits, fitting in groups:
            for some, sent in sends:
                both = bits & some
                for few, main in mains if both else []:
                    if both & few:
                        result = self._outcome(fitting, sent, main)
                        out[result] = out.get(result, 0) | both & few
        return [(bits, result) for result, bits in out.items()]

    def _fitting(self, values, full):
        """For each heading the goods that it fits."""
        fits = []
        for at, above in enumerate(self._above):
            taken = 0
            for cell in self._takes[at]:
                taken = taken | values[cell]
            for cell in self._shuts[at]:
                taken = taken & (full ^ values[cell])
            fits.append(taken & fits[above] if above >= 0 else taken)
        return fits

    def _outcome(self, fitting, sent, main):
        key = (fitting, sent, main)
        if key not in self._told:
            self._told[key] = self._find(fitting, sent, main)
        return self._told[key]

    def _find(self, fitting, sent, main):
        left = [leaf for k, leaf in enumerate(self.ends) if fitting >> k & 1]
        for _, behind in self.steps_from(left, main):
            left = behind
        if not left:
            return "none"
        if len(left) > 1:
            return "two"
        been = self.way_from(left[0], sent)
        return self.titles[been[len(been) - 1]] if been[len(been) - 1] not in been[:-1] else "ring"

    def steps_from(self, left, main):
        """The rules that are used on these leaves, rows of (rule, leaves left behind it)."""
        out = []
        for rule in self.rules:
            if len(left) > 1:
                left = self._behind_rule(rule, left, main)
                out.append((rule, left))
        return out

    def _behind_rule(self, rule, left, main):
        if rule == "first":
            return left[:1]
        if rule == "last":
            return left[-1:]
        if rule == "main":
            kept = [leaf for leaf in left if self.titles[leaf] == main]
            return kept if kept else left
        return [leaf for leaf in left if not any([self._ladder.is_narrower(k, leaf) for k in left if k != leaf])]

    def way_from(self, leaf, sent):
        """The leaves at which a good has been, from where it is found; the last one may close a ring."""
        been = [leaf]
        while been[len(been) - 1] not in been[:-1]:
            at = been[len(been) - 1]
            targets = [row[2] for k, row in enumerate(self._sends) if row[0] == at and sent >> k & 1]
            if not targets:
                return been
            been.append(targets[0])
        return been


def parted(groups, columns):
    """Part groups of goods by columns: rows of (goods, number), a bit of the number for each column."""
    for k, column in enumerate(columns):
        groups = split_by(groups, column, 1 << k)
    return groups


def split_by(groups, column, bit):
    """Part groups `(goods, number)` by one column; those inside it get the bit."""
    out = []
    for goods, number in groups:
        inside = goods & column
        if inside:
            out.append((inside, number | bit))
        if inside != goods:
            out.append((goods ^ inside, number))
    return out
