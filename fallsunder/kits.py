"""All that a book asks of goods, however deep they lie in others: their kinds, each with a least good."""

from fallsunder.benches import Pack, look_of_record
from fallsunder.desks import Desk
from fallsunder.excerpts import all_asked, asked_in_turn, bench_for
from fallsunder.growing import Grower
from fallsunder.slimming import SlimSheet
from fallsunder.stages import narrowed_row, states_asked, takings_of
from fallsunder.surveys import Survey


class Kind:
    """Goods that a book does not tell apart wherever they are parts: all have this root (top), record and result."""

    def __init__(self, top, record, result, nodes, making):
        self.top = top
        self.record = record
        self.result = result
        self.nodes = nodes
        self.making = making


class Room:
    """What things of some forms, which take the same roots, can have as parts; numbers are those of kinds.

    Mains are the possible main parts, looks are rows `(some, each, size, number)` of parts beside the main one, and
    sides[n] are rows `(some, each, size, numbers)` of n such parts.
    """

    def __init__(self, bench, taking, kinds):
        self.taking = taking
        records = {}
        looks = {}
        for number, kind in enumerate(kinds):
            if kind.top in taking.takes:
                records.setdefault(kind.record, number)
                looks.setdefault(look_of_record(bench, kind.record), (kind.nodes, number))
        self.mains = list(records.values())
        self.looks = [(*look, *rest) for look, rest in looks.items()]
        self.sides = sides_of(bench, self.looks, taking.reach)
        self.pack = Pack(bench, self.mains, list(records))


class Kit:
    """The kinds of goods of a stock by a book, in ascending order of their sizes, and the rooms that they make."""

    def __init__(self, book):
        stock = book.stock
        sheet = SlimSheet()
        desks = {0: Desk(sheet, 0, book)}
        chain, again = asked_in_turn(stock, sheet, desks, ((), (0,)))
        asked = all_asked([*chain, again])
        survey = Survey(stock, sheet, desks, asked, rooted=True)
        self.stock = stock
        self.bench = bench_for(stock, sheet, desks, asked)
        self.states = states_asked(self.bench)
        self.kinds = kinds_of(survey, asked, self.bench)
        takings = takings_of([row for row in stock.forms if row[0] in stock.usable()])
        self.rooms = [Room(self.bench, taking, self.kinds) for taking in takings]
        self._grower = Grower(survey)

    def good_of(self, number):
        """A least good of the kind with this number."""
        return self._grower.good_of(self.kinds[number].making)

    def cases(self, room, many):
        """The forms and states of things of so many parts in a room."""
        return room.taking.cases(many, self.states)


def kinds_of(survey, asked, bench):
    """The Kinds that a survey tells, in ascending order of their sizes."""
    found = {}
    for key, (size, making) in survey.rows.items():
        record = narrowed_row(asked, bench, key[1], key[2])
        word = (key[0], record, key[2][0])
        if word not in found or found[word].nodes > size:
            found[word] = Kind(*word, size, making)
    return sorted(list(found.values()), key=lambda kind: kind.nodes)


def sides_of(bench, looks, reach):
    """For each number of parts from 0 to the reach the rows of such parts, each as small as it can be."""
    out = [[(0, bench.each_mask, 0, ())]]
    for many in range(reach):
        found = {}
        for some, each, total, numbers in out[many]:
            for more, every, size, number in looks:
                look = (some | more, each & every)
                if look not in found or found[look][0] > total + size:
                    found[look] = (total + size, (*numbers, number))
        out.append([(*look, *rest) for look, rest in found.items()])
    return out
