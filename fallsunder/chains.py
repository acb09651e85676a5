"""Books one after another, and what becomes of results on the way."""

from fallsunder.books import Book
from fallsunder.carried import Carried
from fallsunder.errors import BadNumber, OtherStock
from fallsunder.polls import book_poll

FEWEST_BOOKS = 2
MOST_BOOKS = 5


class Chain:
    """A chain of books over one stock."""

    def __init__(self, *books):
        if not FEWEST_BOOKS <= len(books) <= MOST_BOOKS:
            raise BadNumber(len(books))
        for number, book in enumerate(books):
            if book.stock != books[0].stock:
                raise OtherStock(number)
        self.books = tuple(books)
        self._tables = []

    def __call__(self, good):
        return tuple([book(good) for book in self.books])

    def __add__(self, other):
        if not isinstance(other, Book):
            return NotImplemented
        return Chain(*self.books, other)

    def courses(self):
        """All rows of results in which each two neighbours are a carried row, ascending."""
        tables = self._neighbours()
        stack = [(result,) for result in firsts_of(tables[0])[::-1]]
        while stack:
            course = stack.pop()
            if len(course) > len(tables):
                yield course
            else:
                follows = tables[len(course) - 1].get(course[len(course) - 1], ())
                stack.extend([(*course, result) for result in follows[::-1]])

    def ends(self):
        """The rows `(first result, last result)` of all courses."""
        tables = self._neighbours()
        out = []
        for first in firsts_of(tables[0]):
            reached = [first]
            for table in tables:
                reached = sorted(set([result for name in reached for result in table[name]]))
            out.extend([(first, last) for last in reached])
        return tuple(out)

    def strays(self):
        """The ends of courses that no good has as its first and last result."""
        straight = self.straight()
        return tuple([row for row in self.ends() if row not in straight])

    def lost(self):
        """Rows `(number of the first of three books, row)` of three results, carried one by one, that no good has."""
        tables = self._neighbours()
        out = []
        for number in range(len(tables) - 1):
            books = self.books[number:number + 3]
            rows = [(first, second, third) for first in firsts_of(tables[number])
                    for second in tables[number][first] for third in tables[number + 1][second]]
            poll = book_poll(list(books), wanted=[rows])
            out.extend([(number, row) for row in rows if (0, row) not in poll.found])
        return tuple(out)

    def straight(self):
        """The carried table from the first book to the last one."""
        return Carried(self.books[0], self.books[len(self.books) - 1])

    def _neighbours(self):
        """For each two neighbours the results of the second by those of the first; found once."""
        if not self._tables:
            tables = [Carried(self.books[k], self.books[k + 1]) for k in range(len(self.books) - 1)]
            self._tables = [{row[0]: table[row[0]] for row, _ in table} for table in tables]
        return self._tables


def firsts_of(table):
    """The results that a table tells of, ascending."""
    return sorted(list(table))
