"""Deeds that change a book to a new edition, and which of them move a good."""

from itertools import combinations
from fallsunder.books import Book
from fallsunder.carried import Carried
from fallsunder.checks import is_list
from fallsunder.errors import BadBook, BadDeed, BadNumber, OtherStock
from fallsunder.termtree import bad_term

# how many entries a deed of each word has
LENGTHS = {"strike": 2, "put": 2, "term": 3, "rules": 2}
MOST_DEEDS = 7


def amended(book, deeds):
    """The Book behind the deeds."""
    for number, deed in enumerate(deeds):
        book = behind_deed(book, number, deed)
    return book


def behind_deed(book, number, deed):
    """The Book behind one deed, which has this number."""
    if not is_list(deed) or len(deed) == 0 or not isinstance(deed[0], str):
        raise BadDeed(number)
    word = deed[0]
    if word not in LENGTHS or len(deed) != LENGTHS[word] or (word == "term" and deed[1] not in book):
        raise BadDeed(number)
    if word == "strike":
        return without_note(book, deed[1])
    if word == "put":
        return book.changed(notes=[*book.notes, deed[1]])
    if word == "term":
        return book.changed(headings=[(row[0], row[1], deed[2]) if row[0] == deed[1] else row for row in book.headings])
    # None would leave the rules as they are in `changed`
    return Book(book.stock, book.headings, notes=book.notes, rules=deed[1])


def without_note(book, note):
    """The Book without the first note that is equal to this one."""
    if not is_list(note) or len(note) != 4 or bad_term(note[2]) is not None or tuple(note) not in book.notes:
        return book
    at = book.notes.index(tuple(note))
    return book.changed(notes=[*book.notes[:at], *book.notes[at + 1:]])


def kept_deed(deed):
    """A copy of a deed: what it has as lists, as tuples."""
    return tuple([tuple(part) if isinstance(part, list) else part for part in deed])


class Choices:
    """The books behind choices of deeds that are sound together, each made once."""

    def __init__(self, book, deeds):
        self._deeds = [kept_deed(deed) for deed in deeds]
        self._known = {(): book}

    def book_behind(self, numbers):
        """The Book behind the deeds with these numbers; None where a note too many stands in the way."""
        if numbers not in self._known:
            self._known[numbers] = self._made(numbers)
        return self._known[numbers]

    def _made(self, numbers):
        ahead = self.book_behind(numbers[:-1])
        last = numbers[len(numbers) - 1]
        try:
            return None if ahead is None else behind_deed(ahead, last, self._deeds[last])
        except BadBook:
            return None

    def fewest_for(self, good):
        """The numbers of the fewest deeds that give the good the result that it has behind all of them."""
        every = list(range(len(self._deeds)))
        book = self.book_behind(tuple(every))
        result = book(good)
        for length in range(len(every)):
            for numbers in combinations(every, length):
                other = self.book_behind(numbers)
                if other is not None and other(good) == result:
                    return numbers
        return tuple(every)


def check_many(deeds):
    """There are not more deeds than the fewest can be asked of."""
    if len(deeds) > MOST_DEEDS:
        raise BadNumber(len(deeds))


def fewest_deeds(book, deeds, good):
    """The numbers of the fewest deeds that give the good the result that it has behind all of them."""
    check_many(deeds)
    if good.stock != book.stock:
        raise OtherStock(2)
    amended(book, deeds)
    return Choices(book, deeds).fewest_for(good)


def moved(book, deeds):
    """Rows `(old result, new result, good, numbers)` for each two results of a good that differ."""
    check_many(deeds)
    new = amended(book, deeds)
    choices = Choices(book, deeds)
    carried = Carried(book, new)
    for (old, result), good in carried:
        if old != result:
            yield old, result, good, choices.fewest_for(good)
