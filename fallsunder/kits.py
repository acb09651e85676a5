"""All that books ask of goods, however deep they lie in others: their kinds, each with a least good."""

from fallsunder.benches import Pack, look_of_record, parted_answers, starts_by
from fallsunder.desks import Desk
from fallsunder.excerpts import all_asked, asked_in_turn, bench_for
from fallsunder.growing import Grower
from fallsunder.slimming import SlimSheet
from fallsunder.stages import narrowed_row, states_asked, takings_of
from fallsunder.surveys import Survey


class Kind:
    """Goods that no book tells apart wherever they are parts: all have this root (top), record and results.

    The nodes are those of a least good, which the making tells.
    """

    def __init__(self, top, record, results, found):
        self.top = top
        self.record = record
        self.results = results
        self.nodes = found[0]
        self.making = found[1]


class Room:
    """What things of some forms, which take the same roots, can have as parts.

    Mains are the numbers of the kinds of the possible main parts, looks are rows `(some, each)` of parts beside the
    main one, and sides[n] are such rows of n parts.
    """

    def __init__(self, bench, taking, kinds):
        self.taking = taking
        records = {}
        for number, kind in enumerate(kinds):
            if kind.top in taking.takes:
                records.setdefault(kind.record, number)
        self.mains = list(records.values())
        self.looks = list({look_of_record(bench, record): True for record in records})
        self.sides = sides_of(bench, self.looks, taking.reach)
        self.pack = Pack(bench, self.mains, list(records))


class Kit:
    """The kinds of goods of a stock by some books, in ascending order of their sizes, and the rooms that they make."""

    def __init__(self, books):
        stock = books[0].stock
        sheet = SlimSheet()
        desks = {owner: Desk(sheet, owner, book) for owner, book in enumerate(books)}
        owners = tuple(desks)
        chain, again = asked_in_turn(stock, sheet, desks, ((), owners))
        asked = all_asked([*chain, again])
        survey = Survey(stock, sheet, desks, asked, rooted=True)
        self.stock = stock
        self.owners = owners
        self.bench = bench_for(stock, sheet, desks, asked)
        self.states = states_asked(self.bench)
        self.kinds = kinds_of(survey, asked, self.bench)
        self._numbers = {(kind.top, kind.record[0], kind.results): number for number, kind in enumerate(self.kinds)}
        self._roots = ["mix", *[row[0] for row in stock.forms]]
        takings = takings_of([row for row in stock.forms if row[0] in stock.usable()])
        self.rooms = [Room(self.bench, taking, self.kinds) for taking in takings]
        self._grower = Grower(survey)

    def good_of(self, number):
        """A least good of the kind with this number."""
        return self._grower.good_of(self.kinds[number].making)

    def cases(self, room, many):
        """The forms and states of things of so many parts in a room."""
        return room.taking.cases(many, self.states)

    def groups_of(self, room, beside, side):
        """The things of a room beside a side of so many parts, by their kinds: rows (goods, number of the kind).

        The goods are told by bits: for each case each main part of the room.
        """
        cases = self.cases(room, beside + 1)
        starts = starts_by([self._roots.index(case[0]) for case in cases], len(room.mains))
        answers = self.bench.things(cases, beside + 1, room.pack, side)
        wide = len(self.bench.cells)
        out = []
        for goods, number, names in parted_answers(answers, starts, self.bench.cells, self.owners):
            root = self._roots[number >> wide]
            out.append((goods, self._numbers[(root, number & (1 << wide) - 1, names)]))
        return out


def kinds_of(survey, asked, bench):
    """The Kinds that a survey tells; it tells rows in ascending order of sizes."""
    found = {}
    for key, size_and_making in survey.rows.items():
        record = narrowed_row(asked, bench, key[1], key[2])
        word = (key[0], record, key[2])
        if word not in found:
            found[word] = Kind(*word, size_and_making)
    return list(found.values())


def sides_of(bench, looks, reach):
    """For each number of parts from 0 to the reach the rows `(some, each)` of such parts."""
    out = [[(0, bench.each_mask)]]
    for many in range(reach):
        out.append(list({(some | more, each & every): True for some, each in out[many] for more, every in looks}))
    return out
