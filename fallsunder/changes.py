"""The least change after which a good falls under a heading."""

from fallsunder.changing import Changer, changed
from fallsunder.desks import Desk
from fallsunder.errors import NoHeading, NoWay, OtherStock
from fallsunder.goods import sound_good
from fallsunder.levels import Levels
from fallsunder.slimming import SlimSheet


class Change:
    """What is done to a good: the price, the good afterwards, and the deeds."""

    def __init__(self, price, after, deeds):
        self.price = price
        self.after = after
        self.deeds = deeds


def least_change(book, good, heading, prices):
    """A change of the least price after which the good falls under the heading."""
    if good.stock != book.stock:
        raise OtherStock(1)
    if heading not in book:
        raise NoHeading(heading)
    leaves = book.beneath(heading)
    if book(good) in leaves:
        return Change(0, good, ())
    sheet = SlimSheet()
    levels = Levels(book.stock, sheet, {0: Desk(sheet, 0, book)}, ((), (0,)))
    changer = Changer(levels, good, prices, False)
    best = None
    for (_, results), filling in changer.tables[0].items():
        if results[0] in leaves and (best is None or filling.cost < best.cost):
            best = filling
    if best is None:
        raise NoWay(heading)
    plain, deeds = changed(changer, best)
    return Change(best.cost, sound_good(book.stock, plain), deeds)
