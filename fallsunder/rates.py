"""Rates of duty by a book, and prices of joining and finishing."""

from fallsunder.books import RESULTS
from fallsunder.checks import is_list, is_listing
from fallsunder.errors import BadRates, NoRow, Unknown
from fallsunder.ratios import Ratio


class Rates:
    """The duty of a gram for each result by a book, the joining price for each form, and the finishing price."""

    def __init__(self, book, rows, *, joining, finishing=None):
        if not is_price_list(rows, [*book.leaves, *RESULTS]):
            raise BadRates("rows")
        if not is_price_list(joining, forms_of(book)):
            raise BadRates("joining")
        check_finishing(finishing)
        self.book = book
        self._rows = {row[0]: row[1] for row in rows}
        self._joins = {row[0]: row[1] for row in joining}
        self._finishing = finishing

    @property
    def finishing(self):
        """The finishing price of a gram, None if nothing can be finished."""
        return self._finishing

    @finishing.setter
    def finishing(self, value):
        check_finishing(value)
        self._finishing = value

    def refinish(self, price):
        """Set the finishing price."""
        check_finishing(price)
        self._finishing = price

    def __getitem__(self, at):
        if not isinstance(at, str) or at not in self._rows:
            raise NoRow(at)
        return self._rows[at]

    def __iter__(self):
        raise TypeError("rates are looked up one by one")

    def __eq__(self, other):
        if not isinstance(other, Rates) or self.book != other.book or not same_price(self._finishing, other.finishing):
            return False
        return self.price_rows() == other.price_rows()

    def price_rows(self):
        """The rates of all results and the joining prices of all forms, in the order of the book and of the stock."""
        rates = [self._rows[name] for name in [*self.book.leaves, *RESULTS]]
        return [*rates, *[self._joins[name] for name in forms_of(self.book)]]

    def duty(self, good):
        """The duty of a good."""
        book = self.book
        return self._rows[book(good)] * good.weight

    def join_price(self, form):
        """The joining price of a gram for things of a form."""
        if not isinstance(form, str) or form not in self._joins:
            raise Unknown(form)
        return self._joins[form]

    def with_joining(self, ratio):
        """The rates with this joining price for each form, and without finishing."""
        if not is_price(ratio):
            raise BadRates("joining")
        joining = [(name, ratio) for name in forms_of(self.book)]
        return Rates(self.book, list(self._rows.items()), joining=joining)


def forms_of(book):
    """The names of the forms of the stock of a book."""
    return [row[0] for row in book.stock.forms]


def is_price(thing):
    """Is it a Ratio from 0?"""
    return isinstance(thing, Ratio) and thing.top >= 0


def is_price_list(rows, names):
    """Is it a list of rows of a name and a price, each of these names once?"""
    if not is_list(rows) or not all([is_listing(row, 2, 2) and isinstance(row[0], str) for row in rows]):
        return False
    return sorted([row[0] for row in rows]) == sorted(names) and all([is_price(row[1]) for row in rows])


def check_finishing(price):
    """It is a price, or None."""
    if price is not None and not is_price(price):
        raise BadRates("finishing")


def same_price(first, second):
    """Are two prices, each of which may be None, the same?"""
    if first is None or second is None:
        return first is None and second is None
    return first == second
