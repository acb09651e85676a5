"""How the result of a good by a book comes about."""

from fallsunder.answering import answers_of
from fallsunder.books import RESULTS
from fallsunder.errors import OtherStock


class Reading:
    """The reading of a good by a book; it is true if the result is a leaf."""

    def __init__(self, book, good):
        if book.stock != good.stock:
            raise OtherStock(1)
        sheet, desk = book.at_work()
        parts = list(good)
        self.main_result = book(parts[good.main]) if parts else ""
        values, told = answers_of(sheet, {0: desk}, good)
        fits, steps, left, sent = desk.tale_of(values, self.main_result)
        titles = desk.titles
        self.result = told[0]
        self.fits = tuple([titles[leaf] for leaf in fits])
        self.steps = tuple([(rule, tuple([titles[leaf] for leaf in behind])) for rule, behind in steps])
        self.found = titles[left[0]] if len(left) == 1 else ""
        self.sent = tuple([(titles[leaf], number, titles[target]) for leaf, number, target in sent])

    def __bool__(self):
        return bool(self.result not in RESULTS)

    def __eq__(self, other):
        if not isinstance(other, Reading) or self.result != other.result or self.fits != other.fits:
            return False
        if self.steps != other.steps or self.found != other.found:
            return False
        return self.sent == other.sent and self.main_result == other.main_result

    def ring(self):
        """The leaves of the ring, from the first one that comes again up to the last one."""
        if self.result != "ring":
            return ()
        been = [row[0] for row in self.sent]
        return tuple(been[been.index(self.sent[len(been) - 1][2]):])


def results(book, goods):
    """The results of some goods, one by one."""
    for number, good in enumerate(list(goods)):
        if good.stock != book.stock:
            raise OtherStock(number + 1)
        yield book(good)
