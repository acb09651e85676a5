"""Rulings over a book: rows of a term and of the leaf that is ruled for goods that keep it."""

from itertools import combinations
from fallsunder.bookcheck import check_plain
from fallsunder.checks import is_listing, is_number_of
from fallsunder.errors import BadNumber, BadRow, OtherStock
from fallsunder.polls import Poll
from fallsunder.terms import Term
from fallsunder.termtree import check_asked

MOST_RULINGS = 7


class Rulings:
    """Rulings over a book; the first row whose term a good keeps decides it."""

    def __init__(self, book, rows):
        if not 1 <= len(rows) <= MOST_RULINGS:
            raise BadNumber(len(rows))
        for number, row in enumerate(rows):
            check_ruling(book, number, row)
        self.book = book
        self.rows = tuple([tuple(row) for row in rows])
        self._terms = [Term(row[0]) for row in self.rows]
        self._poll = None

    @property
    def many(self):
        """How many rows there are."""
        return len(self.rows)

    def __call__(self, good):
        number = self.decider(good)
        book = self.book
        return book(good) if number < 0 else self.rows[number][1]

    def __getitem__(self, at):
        if not is_number_of(at, len(self.rows)):
            raise BadRow(at)
        return self.rows[at]

    def __iter__(self):
        return iter(self.rows)

    def __eq__(self, other):
        return isinstance(other, Rulings) and self.book == other.book and self.rows == other.rows

    def decider(self, good):
        """The number of the row that decides the good, -1 if there is none."""
        if good.stock != self.book.stock:
            raise OtherStock(1)
        for number, term in enumerate(self._terms):
            if term(good):
                return number
        return -1

    def clashes(self):
        """Rows `(earlier, later, good)` for all rows that clash, each with a least good that keeps both terms."""
        poll = self._found_rows()
        for first, second in combined(len(self.rows)):
            if self.rows[first][1] != self.rows[second][1]:
                row = poll.least_of([row for row in poll.found if row[0] >> first & row[0] >> second & 1])
                if row is not None:
                    yield first, second, poll.good_of(row)

    def against(self):
        """Rows `(number, good)` for the rows that are against the book, each with a least good that shows it."""
        poll = self._found_rows()
        for number, (_, heading) in enumerate(self.rows):
            rows = [row for row in poll.found if decider_of(row[0]) == number and row[1][0] != heading]
            if rows:
                yield number, poll.good_of(poll.least_of(rows))

    def idle(self):
        """The numbers of the rows without which the same is ruled for all goods."""
        every = list(range(len(self.rows)))
        return tuple([number for number in every if self._says_same([k for k in every if k != number])])

    def says_same(self, numbers):
        """Is the same ruled for all goods by these rows alone?"""
        self._check_numbers(numbers)
        return self._says_same(numbers)

    def fewest(self):
        """The numbers of the fewest rows by which the same is ruled for all goods."""
        every = list(range(len(self.rows)))
        for length in range(len(every)):
            for numbers in combinations(every, length):
                if self._says_same(numbers):
                    return numbers
        return tuple(every)

    def chosen(self, numbers):
        """The rows with these numbers, ascending."""
        self._check_numbers(numbers)
        for number, row in enumerate(self.rows):
            if number in numbers:
                yield row

    def _check_numbers(self, numbers):
        for number in numbers:
            if not is_number_of(number, len(self.rows)):
                raise BadRow(number)

    def _found_rows(self):
        """The rows of truths of the terms, and results, that goods have; found once."""
        if self._poll is None:
            self._poll = Poll(self.book.stock, self._terms, [self.book])
        return self._poll

    def _says_same(self, numbers):
        mask = sum([1 << number for number in range(len(self.rows)) if number in numbers])
        for bits, told in self._found_rows().found:
            if self._ruled(bits, told[0]) != self._ruled(bits & mask, told[0]):
                return False
        return True

    def _ruled(self, bits, result):
        """What is ruled for a good that keeps these terms."""
        number = decider_of(bits)
        return result if number < 0 else self.rows[number][1]


def check_ruling(book, number, row):
    """The row with this number is a ruling over the book."""
    if not is_listing(row, 2, 2) or not isinstance(row[1], str) or row[1] not in book.leaves:
        raise BadRow(number)
    check_plain(row[0])
    check_asked(book.stock, row[0])


def decider_of(bits):
    """The number of the first of these bits that is set, -1 if none is."""
    return (bits & -bits).bit_length() - 1


def combined(many):
    """All pairs of numbers below this one, ascending."""
    every = list(range(many))
    return list(combinations(every, 2))
