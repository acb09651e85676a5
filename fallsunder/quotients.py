"""Kinds of goods, sorted into classes by what is asked of them, with one kind standing for its class."""

from fallsunder.congruence import Congruence
from fallsunder.kits import Room


class Quotient:
    """What a Kit tells of goods, by classes: with parts of the same classes a thing is of the same class.

    All kinds of a class have one root and the same results. For each class its least kind is kept.
    """

    def __init__(self, kit):
        least = Congruence(kit, [kind.results for kind in kit.kinds]).least_of_all()
        kept = sorted(set(least))
        self.stock = kit.stock
        self.bench = kit.bench
        self.kinds = [kit.kinds[number] for number in kept]
        self.rooms = [Room(kit.bench, room.taking, self.kinds) for room in kit.rooms]
        self._kit = kit
        self._kept = kept
        spots = {number: at for at, number in enumerate(kept)}
        self._spots = [spots[number] for number in least]

    def good_of(self, number):
        """A least good of the class with this number."""
        return self._kit.good_of(self._kept[number])

    def cases(self, room, many):
        """The forms and states of things of so many parts in a room."""
        return self._kit.cases(room, many)

    def groups_of(self, room, beside, side):
        """The classes of things beside a side of so many parts: rows (goods, number of the class)."""
        return [(goods, self._spots[number]) for goods, number in self._kit.groups_of(room, beside, side)]
