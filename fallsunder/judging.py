"""Is a book sound: is the result of every good a leaf?"""

from itertools import combinations
from fallsunder.books import RESULTS
from fallsunder.polls import book_poll
from fallsunder.readings import Reading
from fallsunder.striking import Striker


class Verdict:
    """What is told of a book; it is true if the book is sound."""

    def __init__(self, fault, good, leaves_told):
        self.fault = fault
        self.good = good
        self.leaves_told = leaves_told

    def __bool__(self):
        return not self.fault


def judge(book):
    """The Verdict on a book: sound, or a fault with a least good of all that have one."""
    poll = book_poll([book], wanted=[[(fault,)] for fault in RESULTS])
    row = poll.least_of([(0, (fault,)) for fault in RESULTS])
    if row is None:
        return Verdict("", None, ())
    fault, good, leaves = told_fault(book, row[1][0], poll.good_of(row))
    return Verdict(fault, good, leaves)


def told_fault(book, fault, good):
    """A fault with its good and the leaves that are told of it."""
    reading = Reading(book, good)
    if fault == "ring":
        return (fault, good, reading.ring())
    if fault == "two":
        return (fault, good, reading.steps[len(reading.steps) - 1][1] if reading.steps else reading.fits)
    return (fault, good, ())


def faults(book):
    """Rows `(fault, good, leaves)` for each fault that some good has, in the order none, two, ring."""
    poll = book_poll([book], wanted=[[(fault,) for fault in RESULTS]])
    for fault in RESULTS:
        if (0, (fault,)) in poll.found:
            yield told_fault(book, fault, poll.good_of((0, (fault,))))


def unused(book):
    """The leaves that are the result of no good, in the order of the book."""
    poll = book_poll([book], wanted=[[(leaf,) for leaf in book.leaves]])
    return tuple([leaf for leaf in book.leaves if (0, (leaf,)) not in poll.found])


def fewest_struck(book):
    """The numbers of the fewest notes without which the book is sound, None if no choice makes it sound."""
    striker = Striker(book)
    every = list(range(len(book.notes)))
    for length in range(len(every) + 1):
        for numbers in combinations(every, length):
            if striker.may_be_sound(numbers):
                notes = [note for number, note in enumerate(book.notes) if number not in numbers]
                verdict = judge(book.changed(notes=notes))
                if verdict.fault == "":
                    return numbers
                striker.take(verdict.good)
        if striker.is_done():
            return None
    return None
