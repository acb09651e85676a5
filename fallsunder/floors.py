"""How things are made around a part, told for each depth at which the part may lie."""

from fallsunder.benches import Pack


class Bay:
    """What things of some forms, which take the same roots, can have beside a part.

    Packs are the main parts by their sizes; sides[n] are rows `(some, each, size, numbers)` of n other parts.
    """

    def __init__(self, bench, taking):
        self.taking = taking
        self.sides = [side_rows(table) for table in taking.sides]
        self.packs = {size: main_pack(bench, rows) for size, rows in taking.mains.items()}


class Floor:
    """A stage of a survey that has ended; above are the numbers of the floors that take what is made on this one."""

    def __init__(self, stage, above):
        self.bench = stage.bench
        self.telling = stage.telling
        self.above = above
        self.bays = [Bay(stage.bench, taking) for taking in stage.takings]
        self._states = stage.states

    def cases(self, bay, many):
        """The forms and states of things of so many parts in a bay."""
        return bay.taking.cases(many, self._states)


def floors_of(stages):
    """The floors of the stages of a survey; the last one takes what is made on it, too."""
    last = len(stages) - 1
    out = []
    for number, stage in enumerate(stages):
        above = [number - 1] if number > 0 else []
        out.append(Floor(stage, [*above, number] if number == last else above))
    return out


def side_rows(table):
    """Rows `(some, each, size, numbers)` of the sides of a Taking, which stand in the table by their sizes."""
    return [(some, each, size, numbers) for size, sides in table.items() for some, each, numbers in sides]


def main_pack(bench, rows):
    """A Pack of the main parts that a Taking keeps in these rows."""
    mains = [main for row in rows for main in row[3].values()]
    return Pack(bench, [number for number, _ in mains], [record for _, record in mains])
