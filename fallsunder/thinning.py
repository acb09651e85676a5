"""Notes that a book does not need."""

from fallsunder.alike import parting_good
from fallsunder.checks import is_number_of
from fallsunder.errors import BadRow


def needless(book):
    """The numbers of the notes without which the book is alike."""
    known = []
    return tuple([number for number in range(len(book.notes)) if is_needless(book, number, known)])


def is_needless(book, number, known):
    """Is the note with this number needless? Goods that part the books are added to those that are known."""
    other = without_notes(book, [number])
    for good in known:
        if book(good) != other(good):
            return False
    good = parting_good(book, other)
    if good is not None:
        known.append(good)
    return good is None


def thinned(book):
    """The book without its first needless note, then without the first needless one of what is left, and so on."""
    known = []
    number = 0
    while number < len(book.notes):
        if is_needless(book, number, known):
            book = without_notes(book, [number])
            number = 0
        else:
            number += 1
    return book


def struck(book, numbers):
    """The book without the notes with these numbers."""
    for number in numbers:
        if not is_number_of(number, len(book.notes)):
            raise BadRow(number)
    return without_notes(book, numbers)


def without_notes(book, numbers):
    """The book without the notes with these numbers, which are there."""
    return book.changed(notes=[note for number, note in enumerate(book.notes) if number not in numbers])
