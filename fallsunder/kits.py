"""All that a book asks of goods, however deep they lie in others: their kinds, each with a least good."""

from fallsunder.benches import Pack, look_of_record
from fallsunder.desks import Desk
from fallsunder.excerpts import all_asked, asked_in_turn, bench_for
from fallsunder.growing import Grower
from fallsunder.slimming import SlimSheet
from fallsunder.stages import narrowed_row, states_asked, takings_of
from fallsunder.surveys import Survey


class Kind:
    """Goods that a book does not tell apart wherever they are parts: all have this root (top), record and result."""

    def __init__(self, top, record, result, making):
        self.top = top
        self.record = record
        self.result = result
        self.making = making


class Room:
    """What things of some forms, which take the same roots, can have as parts.

    Mains are the numbers of the kinds of the possible main parts, looks are rows `(some, each)` of parts beside the
    main one, and sides[n] are such rows of n parts.
    """

    def __init__(self, bench, taking, kinds):
        self.taking = taking
        records = {}
        for number, kind in enumerate(kinds):
            if kind.top in taking.takes:
                records.setdefault(kind.record, number)
        self.mains = list(records.values())
        self.looks = list({look_of_record(bench, record): True for record in records})
        self.sides = sides_of(bench, self.looks, taking.reach)
        self.pack = Pack(bench, self.mains, list(records))


class Kit:
    """The kinds of goods of a stock by a book, in ascending order of their sizes, and the rooms that they make."""

    def __init__(self, book):
        stock = book.stock
        sheet = SlimSheet()
        desks = {0: Desk(sheet, 0, book)}
        chain, again = asked_in_turn(stock, sheet, desks, ((), (0,)))
        asked = all_asked([*chain, again])
        survey = Survey(stock, sheet, desks, asked, rooted=True)
        self.stock = stock
        self.bench = bench_for(stock, sheet, desks, asked)
        self.states = states_asked(self.bench)
        self.kinds = kinds_of(survey, asked, self.bench)
        takings = takings_of([row for row in stock.forms if row[0] in stock.usable()])
        self.rooms = [Room(self.bench, taking, self.kinds) for taking in takings]
        self._grower = Grower(survey)

    def good_of(self, number):
        """A least good of the kind with this number."""
        return self._grower.good_of(self.kinds[number].making)

    def cases(self, room, many):
        """The forms and states of things of so many parts in a room."""
        return room.taking.cases(many, self.states)


def kinds_of(survey, asked, bench):
    """The Kinds that a survey tells; it tells rows in ascending order of sizes."""
    found = {}
    for key, (_, making) in survey.rows.items():
        record = narrowed_row(asked, bench, key[1], key[2])
        word = (key[0], record, key[2][0])
        if word not in found:
            found[word] = Kind(*word, making)
    return list(found.values())


def sides_of(bench, looks, reach):
    """For each number of parts from 0 to the reach the rows `(some, each)` of such parts."""
    out = [[(0, bench.each_mask)]]
    for many in range(reach):
        out.append(list({(some | more, each & every): True for some, each in out[many] for more, every in looks}))
    return out
