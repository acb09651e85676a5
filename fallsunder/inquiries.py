"""Goods in question, and what they answer to questions."""

from fallsunder.errors import BadNumber, NoGood, OtherStock
from fallsunder.fillings import Filler
from fallsunder.opengoods import OpenGood
from fallsunder.polls import Poll
from fallsunder.terms import Term
from fallsunder.termtree import check_asked

MOST_QUESTIONS = 6


def check_inquiry(book, questions, known):
    """The questions and what is known beforehand are over the stock of the book."""
    if isinstance(known, OpenGood) and known.stock != book.stock:
        raise OtherStock(2)
    if isinstance(known, tuple) and known[0].stock != book.stock:
        raise OtherStock(2)
    if not 1 <= len(questions) <= MOST_QUESTIONS:
        raise BadNumber(len(questions))
    for term in questions:
        check_asked(book.stock, term.plain)
    if isinstance(known, Term):
        check_asked(book.stock, known.plain)


class Inquiry:
    """The rows `(answers to the questions as bits, result)` of the goods in question."""

    def __init__(self, book, questions, known):
        self._filler = None
        self._poll = None
        if isinstance(known, OpenGood):
            self._filler = Filler(book, known.plain, list(questions))
            found = self._filler.fillings_at(())
            self._kept = {(bits, names[0]): filling for (bits, names), filling in found.items()}
        else:
            self._kept = self._polled(book, list(questions), known)
        if not self._kept:
            raise NoGood(known)
        self.rows = sorted(self._kept)

    def _polled(self, book, questions, known):
        """The rows of a Poll of the goods in question, by their answers and results."""
        many = len(questions)
        terms = [*questions, known] if isinstance(known, Term) else questions
        books = [book, known[0]] if isinstance(known, tuple) else [book]
        self._poll = Poll(book.stock, terms, books)
        out = {}
        for row in self._poll.found:
            bits, names = row
            asked = isinstance(known, Term)
            wanted = bits >> many & 1 if asked else names[1] == known[1] if isinstance(known, tuple) else True
            if wanted:
                out[(bits & (1 << many) - 1, names[0])] = row
        return out

    def good_of(self, row):
        """A good in question with this row."""
        if self._filler is not None:
            filler = self._filler
            return filler.good_of(self._kept[row])
        poll = self._poll
        return poll.good_of(self._kept[row])

    def rows_apart(self, numbers):
        """Two rows with the same answers to the questions with these numbers and different results, or None."""
        mask = sum([1 << number for number in sorted(set(numbers))])
        met = {}
        for row in self.rows:
            other = met.setdefault(row[0] & mask, row)
            if other[1] != row[1]:
                return (other, row)
        return None
