"""Goods told in part, and the results that their fillings have."""

from fallsunder.errors import BadOpen, OtherStock
from fallsunder.fillings import Filler
from fallsunder.opencheck import MOST_BLANKS, bad_open_place, blanks_of, is_open, told_parts
from fallsunder.terms import Term


class OpenGood:
    """An open good over a stock."""

    def __init__(self, stock, plain):
        place = bad_open_place(stock, plain)
        if place is not None:
            raise BadOpen(place)
        gaps = tuple(blanks_of(plain))
        if len(gaps) > MOST_BLANKS:
            raise BadOpen(())
        self.stock = stock
        self.plain = plain
        self._gaps = gaps

    @property
    def blanks(self):
        """The open places: rows (word, place), in the order of a walk."""
        return self._gaps

    def __call__(self, good):
        if good.stock != self.stock:
            raise OtherStock(1)
        stack = [(self.plain, good)]
        while stack:
            node, part = stack.pop()
            if not fills_node(node, part):
                return False
            stack.extend(list(zip(told_parts(node), list(part))))
        return True

    def __eq__(self, other):
        return isinstance(other, OpenGood) and self.stock == other.stock and self.plain == other.plain


def fills_node(node, good):
    """Does a good fill a node of an open good, whatever its parts are?"""
    if node[0] == "open":
        keeps = Term(node[1])
        return keeps(good)
    if good.root != node[0]:
        return False
    if node[0] == "mix":
        return good.land == node[1] and has_shares(good, node[2])
    if node[1] != good.state and not is_open(node[1]):
        return False
    return good.land == node[2] and good.many == len(node[4]) and (is_open(node[3]) or node[3] == good.main)


def has_shares(good, pairs):
    """Has a mix the same shares of all stuffs as these pairs have?"""
    whole = sum([worth for _, worth in pairs])
    mine = [(stuff, worth * whole) for stuff, worth in good.plain[2]]
    return mine == [(stuff, worth * good.weight) for stuff, worth in pairs]


def fallings(book, open_good):
    """The results of the fillings `(result, good)`, ascending, each with a least filling."""
    if open_good.stock != book.stock:
        raise OtherStock(1)
    filler = Filler(book, open_good.plain, [])
    found = filler.fillings_at(())
    goods = {record[1][0]: filler.good_of(filling) for record, filling in found.items()}
    return tuple([(result, goods[result]) for result in sorted(goods)])
