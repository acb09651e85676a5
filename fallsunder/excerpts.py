"""What must be asked of goods, of their parts, of the parts of these, and so on.

Of a part less and less is asked the deeper it lies, until it is always the same: the shares, and what the books ask
of parts again and again.
"""

from fallsunder.benches import Bench


class Excerpt:
    """The cells of a sheet, and the desks, that are needed to tell some of its cells and the results of some books."""

    def __init__(self, sheet, desks, cells, owners):
        self.cells = sheet.cells
        self.desks = {}
        needed = {}
        stack = list(cells)
        for owner in owners:
            self._take_desk(owner, desks, stack)
        while stack:
            cell = stack.pop()
            row = sheet.cells[cell]
            if cell not in needed:
                needed[cell] = True
                if row[0] == "falls":
                    self._take_desk(row[2], desks, stack)
                elif row[0] in ("not", "and", "or"):
                    stack.extend(row[1:])
        self.simple = [row for row in sheet.simple if row[0] in needed]
        self.shares = [cell for cell in sheet.shares if cell in needed]
        self.looks = [row for row in sheet.looks if row[0] in needed]
        self.asks = [row for row in sheet.asks if row[0] in needed]
        self.early = [row for row in sheet.early if row[0] in needed]
        self.late = [row for row in sheet.late if row[0] in needed]

    def _take_desk(self, owner, desks, stack):
        if owner not in self.desks:
            self.desks[owner] = desks[owner]
            stack.extend(desks[owner].own_cells)

    def marked(self, word):
        """The cells that stand directly beneath this part sign, each once, ascending."""
        return sorted({below for _, sign, below in self.looks if sign == word})


def bench_for(stock, sheet, desks, asked):
    """The Bench that tells what is asked, `(cells, owners)`."""
    excerpt = Excerpt(sheet, desks, asked[0], asked[1])
    return Bench(stock, excerpt, excerpt.desks)


def asked_of_parts(bench):
    """What a Bench asks of parts: `(cells, owners)`, both ascending."""
    return (tuple(bench.cells), tuple(sorted(bench.keepers)))


def asked_in_turn(stock, sheet, desks, asked):
    """What is asked of goods, of their parts, and so on, and what is asked of all parts that lie deeper still."""
    chain = [all_asked([asked])]
    follows = asked_of_parts(bench_for(stock, sheet, desks, chain[0]))
    while follows not in chain:
        chain.append(follows)
        follows = asked_of_parts(bench_for(stock, sheet, desks, follows))
    again = all_asked(chain[chain.index(follows):])
    many = 1
    while many < len(chain) and not is_within(chain[many], again):
        many += 1
    return (chain[:many], again)


def is_within(asked, others):
    """Is all that is asked among what the others ask?"""
    return all([cell in others[0] for cell in asked[0]]) and all([owner in others[1] for owner in asked[1]])


def all_asked(rows):
    """Everything that some rows `(cells, owners)` ask."""
    cells = [cell for row in rows for cell in row[0]]
    owners = [owner for row in rows for owner in row[1]]
    return (tuple(sorted(set(cells))), tuple(sorted(set(owners))))
