"""Goods that a book does not tell apart, wherever they are parts of other goods."""

from math import lcm
from fallsunder.congruence import Congruence
from fallsunder.errors import OtherRoot, OtherStock
from fallsunder.goodcheck import is_place_of
from fallsunder.goods import part_at, sound_good
from fallsunder.kits import Kit
from fallsunder.trees import replaced, same_plain
from fallsunder.twins import Twins


class Frame:
    """Two goods that are equal apart from a place."""

    def __init__(self, first, second, place):
        self.first = first
        self.second = second
        self.place = place

    def __eq__(self, other):
        if not isinstance(other, Frame) or self.place != other.place:
            return False
        return self.first == other.first and self.second == other.second

    def around(self):
        """The number of nodes of the first good that are not in the part at the place."""
        return self.first.size - self.first[self.place].size


def exchangeable(book, first, second):
    """None if no frame for the goods has two results, otherwise a Frame of the least size that has."""
    for number, good in enumerate([first, second]):
        if good.stock != book.stock:
            raise OtherStock(number + 1)
    if first.root != second.root:
        raise OtherRoot(second.root)
    weight = lcm(first.weight, second.weight)
    insides = (first * (weight // first.weight), second * (weight // second.weight))
    if book(first) != book(second):
        return Frame(*insides, ())
    twins = Twins(book)
    layers = twins.layers_around(first, second)
    return None if layers is None else frame_around(book.stock, twins, layers, insides)


def frame_around(stock, twins, layers, insides):
    """The Frame with these layers around two goods of the same weight."""
    place = ()
    for layer in layers:
        others = [twins.good_of(number) for number in layer.others]
        heaviest = max([0, *[good.weight for good in others]])
        if layer.lead < 0:
            # the two goods go on being multiples of what they were
            by = max(1, -(-heaviest // insides[0].weight))
            rows = [[good * by, *others] for good in insides]
            place = (0, *place)
        else:
            main = twins.good_of(layer.lead)
            by = max(1, -(-max(heaviest, insides[0].weight) // main.weight))
            rows = [[main * by, good, *others] for good in insides]
            place = (1, *place)
        plains = [(*layer.case, stock.lands[0], tuple([good.plain for good in row])) for row in rows]
        insides = (sound_good(stock, plains[0]), sound_good(stock, plains[1]))
    return Frame(*insides, place)


def is_frame(frame, first, second):
    """Is it a frame for these two goods?"""
    for number, good in enumerate([first, second]):
        if good.stock != frame.first.stock:
            raise OtherStock(number + 1)
    if first.root != second.root:
        return False
    if not is_place_of(frame.first, frame.place) or not is_place_of(frame.second, frame.place):
        return False
    parts = (part_at(frame.first, frame.place), part_at(frame.second, frame.place))
    if parts[0].weight != parts[1].weight or not is_multiple(parts[0], first) or not is_multiple(parts[1], second):
        return False
    return same_plain(replaced(frame.first.plain, frame.place, parts[1].plain), frame.second.plain)


def is_multiple(good, other):
    """Is the good the other one, multiplied by an integer?"""
    by, rest = divmod(good.weight, other.weight)
    return rest == 0 and by > 0 and good == other * by


def full_set(book):
    """Goods of which no two with the same root are exchangeable, one for each good of the stock."""
    kit = Kit([book])
    labels = [kind.results for kind in kit.kinds]
    return tuple([kit.good_of(number) for number in Congruence(kit, labels).least_kinds()])
