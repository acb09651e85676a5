"""Which origins goods can have by a rule, and by two."""

from fallsunder.errors import NoRow, OtherStock
from fallsunder.provenance import Provenance
from fallsunder.weighing import Weigher


class Makings:
    """All rows `(result, land, origin)` that goods have by a rule of origin, each with a least good."""

    def __init__(self, rule):
        found = Provenance([rule], "")
        weigher = Weigher(found.stock, found.makings)
        rows = {(results[0], land, origins[0]): making for (results, land, origins), making in found.rows.items()}
        self._goods = {row: weigher.good_of(rows[row]) for row in sorted(rows)}
        self._pairs = list(self._goods.items())

    @property
    def many(self):
        """How many rows there are."""
        return len(self._pairs)

    def __iter__(self):
        return iter(self._pairs)

    def __contains__(self, x):
        return is_text_row(x) and x in self._goods

    def __eq__(self, other):
        return isinstance(other, Makings) and list(self._goods) == list(other._goods)

    def example(self, result, land, origin):
        """A least good of a row."""
        row = (result, land, origin)
        if not is_text_row(row) or row not in self._goods:
            raise NoRow(row)
        return self._goods[row]

    def lands_of(self, result, land):
        """The origins of the rows with this result and this land, ascending."""
        return tuple([row[2] for row in self._goods if row[:2] == (result, land)])


def is_text_row(row):
    """Is it a tuple of three strings?"""
    return isinstance(row, tuple) and len(row) == 3 and all([isinstance(name, str) for name in row])


def origin_parting(first, second):
    """None if all goods have the same origin by both rules, otherwise a least good that parts them."""
    return sought_good(first, second, "parting")


def kinder(first, second):
    """None if each good that is gained by the second rule is gained by the first one, otherwise a least good."""
    return sought_good(first, second, "kinder")


def sought_good(first, second, sought):
    """A least good that is sought with two rules, None if there is none."""
    if first.book.stock != second.book.stock:
        raise OtherStock(1)
    if first == second:
        return None
    found = Provenance([first, second], sought)
    if found.found is None:
        return None
    return Weigher(found.stock, found.makings).good_of(found.found)
