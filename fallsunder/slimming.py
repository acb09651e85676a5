"""A sheet on which terms that are plainly alike have one cell, so that less is to be asked."""

from fallsunder.sheets import Sheet
from fallsunder.termtree import PART_SIGNS, SHARES


class SlimSheet(Sheet):
    """A Sheet on which a cell is as true as its term, but may be that of another term."""

    def _number_of(self, row):
        word = row[0]
        if word == "not":
            return self._negated(row[1])
        if word in ("and", "or"):
            return self._joined(word, min(row[1:]), max(row[1:]))
        if word in PART_SIGNS:
            return self._looked(word, row[1])
        if word == "from" and row[2] == 0:
            return self._number_of(("any",))
        if word == "over" and row[2] == row[3]:
            return self._number_of(("none",))
        if row == ("parts", 1):
            return self._number_of(("not", self._number_of(("mix",))))
        return super()._number_of(row)

    def _negated(self, inner):
        word = self.cells[inner][0]
        if word in ("any", "none"):
            return self._number_of(("none",) if word == "any" else ("any",))
        if word == "not":
            return self.cells[inner][1]
        return super()._number_of(("not", inner))

    def _joined(self, word, first, second):
        idle, ruling = ("any", "none") if word == "and" else ("none", "any")
        words = (self.cells[first][0], self.cells[second][0])
        if ruling in words or ("not", first) == self.cells[second] or ("not", second) == self.cells[first]:
            return self._number_of((ruling,))
        if words[0] == idle or first == second:
            return second
        if words[1] == idle:
            return first
        return super()._number_of((word, first, second))

    def _looked(self, word, inner):
        row = self.cells[inner]
        if row[0] in ("any", "none"):
            return self._looked_at_same(word, row[0])
        if row[0] == "not":
            return self._looked_at_not(word, row[1])
        if word == "main" and row[0] in SHARES:
            # a thing has its shares from its main part
            return self._number_of(("and", self._number_of(("parts", 1)), inner))
        return super()._number_of((word, inner))

    def _looked_at_same(self, word, inner):
        if word == "each":
            return self._number_of(("any",) if inner == "any" else ("mix",))
        return self._number_of(("parts", 1) if inner == "any" else ("none",))

    def _looked_at_not(self, word, inner):
        if word == "main":
            turned = self._number_of(("not", self._number_of(("main", inner))))
            return self._number_of(("and", self._number_of(("parts", 1)), turned))
        other = "each" if word == "some" else "some"
        return self._number_of(("not", self._number_of((other, inner))))
