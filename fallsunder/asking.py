"""Which questions settle a book for the goods in question."""

from itertools import combinations
from fallsunder.checks import is_number_of
from fallsunder.errors import BadRow, Undecided
from fallsunder.inquiries import Inquiry, check_inquiry


def doubtful(book, questions, choice, *, known=None):
    """None if the choice of questions settles the book, otherwise two goods in question that it does not tell apart."""
    check_inquiry(book, questions, known)
    for number in choice:
        if not is_number_of(number, len(questions)):
            raise BadRow(number)
    inquiry = Inquiry(book, questions, known)
    rows = inquiry.rows_apart(choice)
    return None if rows is None else (inquiry.good_of(rows[0]), inquiry.good_of(rows[1]))


def fewest_questions(book, questions, *, known=None):
    """The numbers of the fewest questions that settle the book."""
    check_inquiry(book, questions, known)
    inquiry = Inquiry(book, questions, known)
    every = list(range(len(questions)))
    for length in range(len(every)):
        for numbers in combinations(every, length):
            if inquiry.rows_apart(numbers) is None:
                return numbers
    rows = inquiry.rows_apart(every)
    if rows is not None:
        raise Undecided(inquiry.good_of(rows[0]), inquiry.good_of(rows[1]))
    return tuple(every)
