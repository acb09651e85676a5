"""Prices of changes, and into what the parts of a good can be changed for which price."""

from fallsunder.changing import Changer
from fallsunder.checks import is_number
from fallsunder.errors import BadPrices, OtherStock
from fallsunder.levels import EvenLevels
from fallsunder.papers import kind_row, mark_cells
from fallsunder.sheets import Sheet
from fallsunder.watching import Watch

GREATEST_PRICE = 1000


class Prices:
    """What it costs to restate a thing, to reweigh it, and to exchange a part."""

    def __init__(self, restate=1, reweigh=1, exchange=2):
        for part, price in (("restate", restate), ("reweigh", reweigh), ("exchange", exchange)):
            if not is_number(price) or not 0 <= price <= GREATEST_PRICE:
                raise BadPrices(part)
        self.restate = restate
        self.reweigh = reweigh
        self.exchange = exchange

    def __eq__(self, other):
        if not isinstance(other, Prices) or self.restate != other.restate:
            return False
        return self.reweigh == other.reweigh and self.exchange == other.exchange

    def total(self, many_restate, many_reweigh, many_exchange):
        """The price of so many changes of each sort."""
        return self.restate * many_restate + self.reweigh * many_reweigh + self.exchange * many_exchange


def price_table(book, good, prices):
    """For each place of the good the kinds into which the part there can be changed, each with the least price."""
    if good.stock != book.stock:
        raise OtherStock(1)
    watch = Watch(book.stock, [book], Sheet())
    cells = mark_cells(watch)
    changer = Changer(EvenLevels(book.stock, watch.sheet, watch.desks, (cells, (0,))), good, prices, True)
    out = []
    for place, node, table in zip(changer.spots, changer.nodes, changer.tables):
        rows = [(kind_row((node.root, *record), len(cells)), filling.cost) for record, filling in table.items()]
        out.append((place, tuple(sorted(rows))))
    return tuple(out)
