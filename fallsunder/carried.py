"""Which results by one book become which results by another one."""

from fallsunder.errors import NoRow, OtherStock
from fallsunder.polls import book_poll


class Carried:
    """The carried table of an old and a new book; its rows `((old, new), good)` may be known already."""

    def __init__(self, old, new, *, known=None):
        if old.stock != new.stock:
            raise OtherStock(1)
        self.old = old
        self.new = new
        self._pairs = carried_pairs(old, new) if known is None else list(known)
        self._goods = {row: good for row, good in self._pairs}
        follows = {}
        for (first, second), _ in list(self._pairs):
            follows[first] = (*follows.get(first, ()), second)
        self._follows = follows

    @property
    def many(self):
        """How many rows there are."""
        return len(self._pairs)

    def __iter__(self):
        return iter(self._pairs)

    def __contains__(self, x):
        return is_text_pair(x) and x in self._goods

    def __getitem__(self, at):
        if not isinstance(at, str) or at not in self._follows:
            raise NoRow(at)
        return self._follows[at]

    def __eq__(self, other):
        return isinstance(other, Carried) and list(self._goods) == list(other._goods)

    def example(self, result, new_result):
        """A least good with these two results."""
        row = (result, new_result)
        if not is_text_pair(row) or row not in self._goods:
            raise NoRow(row)
        return self._goods[row]

    def sure(self, result):
        """The one new result of an old one, or "" if there are several."""
        follows = self[result]
        return follows[0] if len(follows) == 1 else ""

    def back(self):
        """The carried table from the new book to the old one."""
        turned = {(second, first): good for (first, second), good in self._pairs}
        return Carried(self.new, self.old, known=[(row, turned[row]) for row in sorted(turned)])

    def kept(self):
        """The leaves of both books that each good has as its result by both or by neither, in the old order."""
        moved_ones = [name for row in self._goods if row[0] != row[1] for name in row]
        return tuple([leaf for leaf in self.old.leaves if leaf in self.new.leaves and leaf not in moved_ones])


def carried_pairs(old, new):
    """The rows `((old result, new result), good)`, ascending."""
    poll = book_poll([old, new])
    return [(row[1], poll.good_of(row)) for row in sorted(poll.found)]


def is_text_pair(row):
    """Is it a tuple of two strings?"""
    return isinstance(row, tuple) and len(row) == 2 and all([isinstance(name, str) for name in row])
