"""Rules of origin: in which land a good counts as made."""

from fallsunder.answering import all_answers
from fallsunder.checks import is_list, is_number
from fallsunder.errors import BadRatio, BadZone, OtherStock, Unknown
from fallsunder.goods import good_nodes
from fallsunder.ratios import Ratio


class OriginRule:
    """A book, a tolerance, and zones of lands that count as one."""

    def __init__(self, book, tolerance=0, *, zones=()):
        if not is_tolerance(tolerance):
            raise BadRatio(tolerance)
        check_zones(book.stock, zones)
        self.book = book
        self.tolerance = tolerance if isinstance(tolerance, Ratio) else Ratio(0)
        self.zones = tuple([tuple(zone) for zone in zones])
        # for each land the one that stands for all that count as one with it
        heads = {land: land for land in book.stock.lands}
        heads.update({land: zone[0] for zone in self.zones for land in zone})
        self._heads = heads

    def __call__(self, good):
        self._check_stock(good)
        return self._story(good)[0]

    def __eq__(self, other):
        if not isinstance(other, OriginRule) or self.book != other.book:
            return False
        return self.tolerance == other.tolerance and self.zones == other.zones

    def gained(self, good):
        """Is the good gained? A mix always is."""
        self._check_stock(good)
        return self._story(good)[1]

    def staying(self, good):
        """The numbers of the foreign parts that stay what they are."""
        self._check_stock(good)
        return self._story(good)[2]

    def as_one(self, first, second):
        """Do two lands count as one?"""
        for land in (first, second):
            if not isinstance(land, str) or land not in self._heads:
                raise Unknown(land)
        return self.head_of_land(first) == self.head_of_land(second)

    def head_of_land(self, land):
        """The land that stands for all that count as one with a land of the stock."""
        return self._heads[land]

    def _check_stock(self, good):
        if good.stock != self.book.stock:
            raise OtherStock(1)

    def _story(self, good):
        """`(origin, is it gained, numbers of the parts that stay)` of a good."""
        sheet, desk = self.book.at_work()
        results = [told[0] for _, told in all_answers(sheet, {0: desk}, good)]
        done = []
        for node, result in list(zip(good_nodes(good), results))[::-1]:
            below = []
            for _ in node:
                below.append(done.pop())
            done.append((self._story_of(node, result, below), result))
        return done[0][0]

    def _story_of(self, node, result, below):
        """What is told of a node, from what is told of its parts, rows (told, result)."""
        if not below:
            return (node.land, True, ())
        stays = [k for k, (told, name) in enumerate(below)
                 if name == result and not self.as_one(told[0], node.land)]
        parts = list(node)
        load = sum([parts[k].weight for k in stays])
        is_gained = load * self.tolerance.bottom <= node.weight * self.tolerance.top
        return (node.land if is_gained else below[node.main][0][0], is_gained, tuple(stays))


def is_tolerance(thing):
    """Is it a Ratio from 0 to less than 1, or the integer 0?"""
    if isinstance(thing, Ratio):
        return 0 <= thing.top < thing.bottom
    return is_number(thing) and thing == 0


def check_zones(stock, zones):
    """Each is a list of lands of the stock; no land comes twice."""
    met = []
    for number, zone in enumerate(zones):
        for land in zone if is_list(zone) else [None]:
            if land not in stock.lands or land in met:
                raise BadZone(number)
            met.append(land)
