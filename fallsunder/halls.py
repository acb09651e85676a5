"""Rooms of a Kit in which all that can stand there has a number, and the kinds of things are looked up by numbers."""

from fallsunder.benches import look_of_record


class Hall:
    """A Room with numbers for its main parts, its looks, and the sides of so many parts beside the main one."""

    def __init__(self, kit, room):
        self.kit = kit
        self.room = room
        self.reach = room.taking.reach
        self.takes = room.taking.takes
        self.main_at = {kit.kinds[number].record: at for at, number in enumerate(room.mains)}
        self.look_at = {look: at for at, look in enumerate(room.looks)}
        self.side_at = [{side: at for at, side in enumerate(sides)} for sides in room.sides]
        self.wider = [[self._wider_side(many, side) for side in sides] for many, sides in enumerate(room.sides[:-1])]
        self.case_rows = [kit.cases(room, many + 1) for many in range(self.reach + 1)]
        self._kinds = {}

    def _wider_side(self, many, side):
        """For each look the number of the side that one more part of this look makes of a side."""
        table = self.side_at[many + 1]
        return [table[(side[0] | some, side[1] & each)] for some, each in self.room.looks]

    def look_of(self, kind):
        """The number of the look of a Kind."""
        return self.look_at[look_of_record(self.kit.bench, kind.record)]

    def kinds_beside(self, many, at):
        """For each case the numbers of the kinds of things with these parts beside each of the main parts."""
        if (many, at) not in self._kinds:
            self._kinds[(many, at)] = self._kinds_of(many, self.room.sides[many][at])
        return self._kinds[(many, at)]

    def _kinds_of(self, many, side):
        wide = len(self.room.mains)
        flat = [0 for _ in range(wide * len(self.case_rows[many]))]
        groups = self.kit.groups_of(self.room, many, side) if self.case_rows[many] else []
        for goods, number in groups:
            left = goods
            while left:
                low = left & -left
                flat[low.bit_length() - 1] = number
                left = left ^ low
        return [flat[at:at + wide] for at in range(0, len(flat), wide)]


def halls_of(kit):
    """The Halls of a Kit that some good can enter."""
    return [Hall(kit, room) for room in kit.rooms if room.mains]
