"""Terms cut into cells, so that each term that stands in them is asked once.

A cell is asked of many goods at once: its worth is an integer with one bit for each of them.
"""

from fallsunder.termtree import PART_SIGNS, SHARES, beneath_sign, term_nodes


class Sheet:
    """The cells of some terms; a term with a `falls` in it belongs to an owner, the number of a book."""

    def __init__(self):
        self.cells = []
        self.owners = []
        self.simple = []
        self.shares = []
        self.looks = []
        self.asks = []
        self.early = []
        self.late = []
        self._bare = []
        self._numbers = {}

    def cell_of(self, plain, owner):
        """The number of the cell of a plain term; it and all terms in it get cells."""
        done = []
        for term in term_nodes(plain)[::-1]:
            below = []
            for _ in beneath_sign(term):
                below.append(done.pop())
            row = term
            if below:
                row = (term[0], *below)
            elif term[0] == "falls":
                row = (*term, owner)
            done.append(self._number_of(row))
        return done[0]

    def _number_of(self, row):
        if row not in self._numbers:
            self._numbers[row] = len(self.cells)
            self.cells.append(row)
            self._note_owner(row)
            self._sort_in(self._numbers[row], row)
        return self._numbers[row]

    def _note_owner(self, row):
        below = inner_cells(row)
        owner = row[2] if row[0] == "falls" else -1
        self.owners.append(max([owner, *[self.owners[k] for k in below]]))
        bare = row[0] not in PART_SIGNS and any([self._bare[k] for k in below])
        self._bare.append(bare or row[0] == "falls")

    def _sort_in(self, number, row):
        if row[0] in SHARES:
            self.shares.append(number)
        elif row[0] in PART_SIGNS:
            self.looks.append((number, row[0], row[1]))
        elif row[0] == "falls":
            self.asks.append((number, row[1], row[2]))
        elif row[0] not in ("not", "and", "or"):
            self.simple.append((number, row[0], row[len(row) - 1]))
        elif self._bare[number]:
            self.late.append((number, row[0], row[1], row[len(row) - 1]))
        else:
            self.early.append((number, row[0], row[1], row[len(row) - 1]))

    def marked(self, word):
        """The cells that stand directly beneath this part sign, each once, ascending."""
        return sorted({below for _, sign, below in self.looks if sign == word})


def inner_cells(row):
    """The cells directly beneath a cell."""
    return row[1:] if row[0] in PART_SIGNS or row[0] in ("not", "and", "or") else ()


def work_out(values, full, joins):
    """Give the cells that are joined from others their worths."""
    for number, word, first, second in joins:
        if word == "not":
            values[number] = full ^ values[first]
        elif word == "and":
            values[number] = values[first] & values[second]
        else:
            values[number] = values[first] | values[second]


def work_falls(sheet, desks, values, groups):
    """Give the cells that ask for headings their worths; groups are the results by each book, with their goods."""
    for number, heading, owner in sheet.asks:
        below = desks[owner].leaves_under[heading]
        worth = 0
        for bits, result in groups[owner]:
            if result in below:
                worth = worth | bits
        values[number] = worth


def share_holds(row, grams, whole):
    """Is the share true of a mix with so many grams of its stuff, and so many in all?"""
    if row[0] == "over":
        return grams * row[3] > whole * row[2]
    return grams * row[3] >= whole * row[2]
