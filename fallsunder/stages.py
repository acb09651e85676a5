"""One stage of a survey: what is told of goods from the records of their parts."""

from fallsunder.benches import Crowd, look_of_record, lowest, parted_answers, starts_by

# how many things are asked at once
MOST_AT_ONCE = 16000


class Taking:
    """The forms that take the same roots, with the parts and sides from which their things are made.

    Mains are possible main parts by their sizes, rows `(some, each, heads, table)` of those with one look; a head is
    the number of what else is asked of a main part. Others are the looks of parts that are not the main one. Sides
    are rows of such parts, by their number and their size in all, each told once.
    """

    def __init__(self, number, forms, takes):
        self.number = number
        self.forms = forms
        self.takes = takes
        self.reach = max([row[2] for row in forms]) - 1
        self.mains = {}
        self.others = {}
        self.sides = [{} for _ in range(self.reach + 1)]
        self.met_mains = {}
        self.met_others = {}
        self.met_sides = {}
        self.met_things = {}
        self._heads = {}

    def cases(self, many, states):
        """The forms and states of things of so many parts."""
        return [(row[0], state) for row in self.forms if row[1] <= many <= row[2] for state in states]

    def file(self, bench, size, rows):
        """File records `(number, bits, results)` of parts of this size; are there new mains?"""
        mains = {}
        others = []
        for number, bits, results in rows:
            look = look_of_record(bench, (bits, results))
            if (bits, results) not in self.met_mains:
                self.met_mains[(bits, results)] = True
                head = self._heads.setdefault((bits & bench.head_mask, results), len(self._heads))
                mains.setdefault(look, {})[head] = (number, (bits, results))
            if self.reach > 0 and look not in self.met_others:
                self.met_others[look] = True
                others.append((*look, number))
        if mains:
            self.mains[size] = [(*look, sum([1 << head for head in table]), table) for look, table in mains.items()]
        if others:
            self.others[size] = others
        return mains != {}

    def things_of(self, beside, size):
        """The new things of so many parts beside the main one, whose parts have this size in all.

        They are rows `(record of the main part, some, each, number of the main part, numbers of the others)`: what
        some of all parts are, and what each of them is. Those with the same head and look are told once.
        """
        out = []
        for total, sides in list(self.sides[beside].items()):
            for some, each, numbers in list(sides):
                for more, every, heads, table in list(self.mains.get(size - total, [])):
                    look = (beside, some | more, each & every)
                    known = self.met_things.get(look, 0)
                    fresh = heads & (heads ^ known)
                    if fresh:
                        self.met_things[look] = known | fresh
                        out.extend([(record, look[1], look[2], number, numbers)
                                    for head, (number, record) in table.items() if fresh >> head & 1])
        return out

    def widen(self, size):
        """Add one part to sides where that makes up this size; the numbers of parts for which there are new sides."""
        out = []
        for many in range(1, self.reach + 1):
            fresh = []
            for total, sides in self.sides[many - 1].items():
                for side in sides if size - total in self.others else []:
                    fresh.extend(wider_sides(self, many, side, self.others[size - total]))
            if fresh:
                self.sides[many][size] = fresh
                out.append(many)
        return out

    def sizes_due(self, size, packed, widened):
        """The sizes at which something is to be made or widened from what is new at this size.

        A side with a new part is a part at first, to which smaller parts are added.
        """
        out = []
        for table in self.sides if packed else []:
            out.extend([size + total + 1 for total in table])
        for many in widened:
            out.extend([size + other + 1 for other in self.mains])
            if many < self.reach:
                out.extend([size + other for other in self.others])
        return out


class Stage:
    """Tells rows `(tag, bits, results)` of goods; those that are told of its parts are told by the stage below it."""

    def __init__(self, bench, asked, usable):
        self.bench = bench
        self.telling = asked
        self.below = self
        self.fresh = []
        self.takings = takings_of([row for row in bench.stock.forms if row[0] in usable])
        self.states = states_asked(bench)
        # the records of roots that no form takes are not needed
        self._reaches = {root: reach_of(root, self.takings) or -1 for root in usable}
        self._met = {}
        for taking in list(self.takings):
            taking.sides[0][0] = [(0, bench.each_mask, ())]

    def turns(self):
        """What is made one after another at each size: rows of `(taking, number of parts beside the main one)`."""
        return [(taking, beside) for taking in self.takings for beside in range(taking.reach + 1)]

    def jobs(self, turn, size):
        """The new ways of a turn to make things of this size: rows of `(cases, number of parts, things)`."""
        taking, beside = turn
        cases = taking.cases(beside + 1, self.states)
        things = taking.things_of(beside, size - 1) if cases else []
        few = 1 + MOST_AT_ONCE // max(1, len(cases))
        return [(cases, beside + 1, things[at:at + few]) for at in range(0, len(things), few)]

    def done(self, job):
        """What a job gives, a row `(answers, cases, wide, things)`; None stands for making the mixes."""
        if job is None:
            return (self.bench.mixes(), [("mix", "")], len(self.bench.mixtures), [])
        cases, many, things = job
        answers = self.bench.things(cases, many, Crowd(self.bench, things), (0, self.bench.each_mask))
        return (answers, cases, len(things), things)

    def new_rows(self, row, tags, asked, met):
        """What of some answers has not been met: rows of `(tag, bits, results, making)`."""
        answers, cases, wide, things = row
        starts = [start for start in starts_by([tags[case[0]] for case in cases], wide) if start[1] >= 0]
        many = len(asked[0])
        out = []
        for goods, number, results in parted_answers(answers, starts, asked[0], asked[1]):
            if (number, results) not in met:
                met[(number, results)] = True
                making = self._making_at(lowest(goods), cases, wide, things)
                out.append((number >> many, number & (1 << many) - 1, results, making))
        return out

    def told(self, row):
        """The new rows that the stages above need of some answers; their tags are the reaches of the roots."""
        return self.new_rows(row, self._reaches, self.telling, self._met)

    def _making_at(self, at, cases, wide, things):
        """How the good of one bit is made: `(spans,)` of a mix, or `(form, state, main part, other parts)`."""
        if not things:
            return (self.bench.mixtures[at][1],)
        return (*cases[at // wide], *things[at % wide][3:])

    def take_up(self, size):
        """Take up what the stage below has found at this size; the sizes at which more is due."""
        rows = [(number, *narrowed_row(self.below.telling, self.bench, bits, results), reach)
                for number, reach, bits, results in self.below.fresh]
        out = []
        for taking in self.takings:
            mine = [row[:3] for row in rows if row[3] >> taking.number & 1]
            packed = taking.file(self.bench, size, mine)
            out.extend(taking.sizes_due(size, packed, taking.widen(size)))
        return out


def narrowed_row(asked, bench, bits, results):
    """The record that a Bench needs, out of one that tells what was asked of the stage below."""
    if list(asked[0]) != bench.cells:
        bits = sum([bench.bit_of[cell] for k, cell in enumerate(asked[0]) if bits >> k & 1 and cell in bench.bit_of])
    if list(asked[1]) != bench.keepers:
        results = tuple([results[asked[1].index(owner)] for owner in bench.keepers])
    return (bits, results)


def wider_sides(taking, many, side, others):
    """The sides of so many parts, not met before, that one more part makes of a side."""
    out = []
    for some, each, number in others:
        look = (many, side[0] | some, side[1] & each)
        if look not in taking.met_sides:
            taking.met_sides[look] = True
            out.append((look[1], look[2], (*side[2], number)))
    return out


def takings_of(forms):
    """Some forms by what they take."""
    rows = {}
    for form in forms:
        rows.setdefault(tuple(sorted(form[3])), []).append(form)
    return [Taking(number, some, takes) for number, (takes, some) in enumerate(rows.items())]


def reach_of(root, takings):
    """A bit for each of these that takes the root."""
    return sum([1 << taking.number for taking in takings if root in taking.takes])


def states_asked(bench):
    """The states that terms ask for, and one of the others."""
    asked = [about for _, word, about in bench.sheet.simple if word == "state"]
    other = [state for state in bench.stock.states if state not in asked]
    return [state for state in bench.stock.states if state in asked or state in other[:1]]
