"""Watchers of a stock: terms and books whose answers are asked together."""

from fallsunder.answering import answers_of
from fallsunder.benches import Bench
from fallsunder.books import Book
from fallsunder.desks import Desk
from fallsunder.errors import BadNumber, OtherStock
from fallsunder.termtree import PART_SIGNS, SHARES, beneath_sign, check_asked

MOST_WATCHERS = 8


def check_watchers(stock, watchers):
    """There are 1 to 8, each of them over the stock."""
    if not 1 <= len(watchers) <= MOST_WATCHERS:
        raise BadNumber(len(watchers))
    for number, watcher in enumerate(watchers):
        if not isinstance(watcher, Book):
            check_asked(stock, watcher.plain)
        elif watcher.stock != stock:
            raise OtherStock(number)


class Watch:
    """Watchers that are sound, cut into cells on a sheet that is new."""

    def __init__(self, stock, watchers, sheet):
        self.stock = stock
        self.watchers = tuple(watchers)
        self.sheet = sheet
        desks = {}
        spots = []
        for number, watcher in enumerate(watchers):
            if isinstance(watcher, Book):
                desks[number] = Desk(sheet, number, watcher)
                spots.append(-1)
            else:
                spots.append(sheet.cell_of(watcher.plain, -1))
        self.desks = desks
        self.spots = spots
        self.term_cells = [cell for cell in self.spots if cell >= 0]
        self.owners = list(self.desks)

    def own_bench(self):
        """A Bench for all that the watchers ask."""
        return Bench(self.stock, self.sheet, self.desks)

    def answers_for(self, good):
        """The row of answers of a good."""
        values, results = answers_of(self.sheet, self.desks, good)
        return tuple([results[k] if cell < 0 else values[cell] == 1 for k, cell in enumerate(self.spots)])

    def all_rows(self):
        """If there are no books, a list with all rows there can be, as a Survey tells them."""
        return [] if self.owners else [[("", bits, ()) for bits in range(1 << len(self.spots))]]

    def row_of(self, bits, results):
        """The row of answers that has these bits for the terms and these results by the books."""
        row = []
        terms = 0
        for cell in self.spots:
            if cell < 0:
                row.append(results[len(row) - terms])
            else:
                row.append(bits >> terms & 1 == 1)
                terms += 1
        return tuple(row)

    def marks(self):
        """The marks: rows of `(plain term, owner, cell)`."""
        found = {}
        for cell, watcher in zip(self.spots, self.watchers):
            if cell >= 0:
                found[cell] = watcher.plain
        for number, watcher in enumerate(self.watchers):
            plains = [watcher.plain] if self.spots[number] >= 0 else plains_of(watcher)
            for plain in plains:
                for term in marked_terms(plain):
                    found.setdefault(self.sheet.cell_of(term, number), term)
        return [(plain, self.sheet.owners[cell], cell) for cell, plain in found.items()]


def plains_of(book):
    """The terms of a book, as it is walked."""
    return [row[2] for row in [*book.headings, *book.notes]]


def marked_terms(plain):
    """The shares in a term and what stands directly beneath its part signs, in the order of the walk."""
    out = []
    stack = [(plain, False)]
    while stack:
        term, under = stack.pop()
        if under or term[0] in SHARES:
            out.append(term)
        for inner in beneath_sign(term)[::-1]:
            stack.append((inner, term[0] in PART_SIGNS))
    return out
