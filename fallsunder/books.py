"""Books of headings, and the results of goods by them."""

from fallsunder.answering import answers_of
from fallsunder.bookcheck import check_book
from fallsunder.desks import Desk
from fallsunder.errors import NoHeading, OtherStock
from fallsunder.ladders import Ladder
from fallsunder.sheets import Sheet
from fallsunder.termtree import is_heading_name

RESULTS = ("none", "two", "ring")


def is_heading(thing):
    """Is it a heading's name?"""
    return is_heading_name(thing)


class Book:
    """A book over a stock: headings `(name, parent, term)`, notes `(heading, word, term, target)`, and rules."""

    def __init__(self, stock, headings, *, notes=(), rules=()):
        check_book(stock, headings, notes, rules)
        self.stock = stock
        self.headings = tuple([tuple(row) for row in headings])
        self.notes = tuple([tuple(row) for row in notes])
        self.rules = tuple(rules)
        self.ladder = Ladder(stock, self.headings)
        self._rows = {row[0]: row for row in self.headings}
        self._order = tuple([row[0] for row in self.headings])
        parents = [row[1] for row in self.headings]
        self._ends = tuple([name for name in self._order if name not in parents])
        self._sheet = None
        self._desk = None

    @property
    def leaves(self):
        """The names of the leaves, in the order of the book."""
        return self._ends

    def __getitem__(self, at):
        if not isinstance(at, str) or at not in self._rows:
            raise NoHeading(at)
        return self._rows[at]

    def __contains__(self, x):
        return isinstance(x, str) and x in self._order

    def __iter__(self):
        return iter(self._order)

    def __eq__(self, other):
        if not isinstance(other, Book) or self.stock != other.stock or self.headings != other.headings:
            return False
        return self.notes == other.notes and self.rules == other.rules

    def __call__(self, good):
        if self.stock != good.stock:
            raise OtherStock(1)
        sheet, desk = self.at_work()
        _, results = answers_of(sheet, {0: desk}, good)
        return results[0]

    def at_work(self):
        """A sheet with the terms of the book, and the Desk over it, which is number 0 there."""
        if self._sheet is None:
            self._sheet = Sheet()
            self._desk = Desk(self._sheet, 0, self)
        return (self._sheet, self._desk)

    def line_of(self, name):
        """The names of the headings of its line, from the outermost one down to it."""
        line = []
        at = name
        while at != "" or not line:
            line.append(self[at][0])
            at = self[at][1]
        return tuple(line[::-1])

    def beneath(self, name):
        """The leaves beneath a heading, in the order of the book."""
        top = self[name][0]
        return tuple([leaf for leaf in self._ends if top in self.line_of(leaf)])

    def changed(self, *, headings=None, notes=None, rules=None):
        """The book with other parts where they are passed."""
        return Book(self.stock, self.headings if headings is None else headings,
                    notes=self.notes if notes is None else notes, rules=self.rules if rules is None else rules)
