"""A house: the row of deeds that were done in it, and what follows from them day by day."""

from fallsunder.errors import NoDeed, NoEdition, OtherStock
from fallsunder.housedeeds import check_deed, check_there
from fallsunder.terms import Term


# the deeds whose names differ from one another
NAMED = ("ruling", "lot", "enter")


class Done:
    """A deed that was done; ruled is the Term of a ruling."""

    def __init__(self, deed):
        self.deed = deed
        self.ruled = Term(deed[4]) if deed[0] == "ruling" else None


class DayRules:
    """What is in force on a day: a book, and rulings, which are Dones."""

    def __init__(self, book, ruled):
        self.book = book
        self.ruled_rows = ruled

    def result_for(self, good):
        """The result of a good."""
        for row in self.ruled_rows:
            keeps = row.ruled
            if row.deed[5] in self.book.leaves and keeps(good):
                return row.deed[5]
        book = self.book
        return book(good)


class House:
    """A house over a stock."""

    def __init__(self, stock):
        self.stock = stock
        self.rows = []
        self.undone = []
        # for the words and names of rulings, lots and entries the numbers of their rows
        self.named_rows = {}

    def __eq__(self, other):
        if not isinstance(other, House) or self.stock != other.stock or len(self.rows) != len(other.rows):
            return False
        return all([one.deed == mate.deed for one, mate in zip(self.rows, other.rows)])

    @property
    def many(self):
        """How many deeds stand."""
        return len(self.rows)

    def do(self, deed):
        """Do a deed."""
        check_deed(self, deed)
        self._put(Done(tuple(deed)))
        self.undone = []

    def undo(self):
        """Undo the last deed that stands."""
        if not self.rows:
            raise NoDeed("undo")
        row = self.rows.pop()
        self.undone.append(row)
        if row.deed[0] in NAMED:
            del self.named_rows[(row.deed[0], row.deed[2])]

    def again(self):
        """Do again the last deed that was undone."""
        if not self.undone:
            raise NoDeed("again")
        self._put(self.undone.pop())

    def _put(self, row):
        if row.deed[0] in NAMED:
            self.named_rows[(row.deed[0], row.deed[2])] = len(self.rows)
        self.rows.append(row)

    def standing(self):
        """The deeds that stand."""
        for row in self.rows:
            yield row.deed

    def copy(self):
        """A house with the same deeds, and the same that can be undone and done again."""
        twin = House(self.stock)
        twin.rows = list(self.rows)
        twin.undone = list(self.undone)
        twin.named_rows = {key: at for key, at in self.named_rows.items()}
        return twin

    def edition_on(self, day):
        """The book in force on a day."""
        book = None
        for row in self.rows:
            if row.deed[0] == "edition" and row.deed[1] <= day:
                book = row.deed[2]
        if book is None:
            raise NoEdition(day)
        return book

    def rulings_on(self, day):
        """The rulings in force on a day: rows (name, term, heading)."""
        return tuple([(row.deed[2], row.deed[4], row.deed[5]) for row in self._ruled_on(day)])

    def _ruled_on(self, day):
        """The Dones of the rulings in force on a day."""
        lifted = {row.deed[2]: True for row in self.rows if row.deed[0] == "lift" and row.deed[1] <= day}
        return [row for row in self.rows if row.ruled is not None and is_in_force(row.deed, day, lifted)]

    def rules_on(self, day):
        """The DayRules of a day."""
        return DayRules(self.edition_on(day), self._ruled_on(day))

    def result_on(self, day, good):
        """The result of a good on a day."""
        if good.stock != self.stock:
            raise OtherStock(2)
        return self.rules_on(day).result_for(good)

    def told(self, name):
        """The result of an entry."""
        deed = self.named("enter", name)
        return self.result_on(deed[1], deed[3])

    def sums(self, first, last):
        """For each result of the entries from one day to another their weights together, ascending."""
        sums = {}
        days = {}
        for row in list(self.rows):
            deed = row.deed
            if deed[0] == "enter" and first <= deed[1] <= last:
                if deed[1] not in days:
                    days[deed[1]] = self.rules_on(deed[1])
                result = days[deed[1]].result_for(deed[3])
                sums[result] = sums.get(result, 0) + deed[3].weight
        return tuple([(result, sums[result]) for result in sorted(sums)])

    def named(self, word, name):
        """The standing deed with this word and this name."""
        check_there(self, word, name)
        return self.rows[self.named_rows[(word, name)]].deed


def is_in_force(deed, day, lifted):
    """Is a ruling in force on a day, on which these rulings are lifted?"""
    return deed[1] <= day and (deed[3] is None or day < deed[3]) and deed[2] not in lifted


class Kept:
    """What a house was when a trial began; before is what was kept for the trial around it."""

    def __init__(self, house, before):
        twin = house.copy()
        self.rows = twin.rows
        self.undone = twin.undone
        self.named_rows = twin.named_rows
        self.before = before


class Trial:
    """A trial of a house, for `with`: at its end the house is as it was at its beginning."""

    def __init__(self, house):
        self.held = house
        self.saved = None

    def __enter__(self):
        self.saved = Kept(self.held, self.saved)
        return self.held

    def __exit__(self, kind, value, trace):
        house = self.held
        house.rows = self.saved.rows
        house.undone = self.saved.undone
        house.named_rows = self.saved.named_rows
        self.saved = self.saved.before


def tried(house, steps):
    """Do steps in a trial of the house; copies of the house, one made at the end of each trial, are returned."""
    copies = []
    with Trial(house) as held:
        for step in list(steps):
            if isinstance(step, list):
                copies.extend(tried(held, step))
            elif isinstance(step, str) and step == "undo":
                held.undo()
            elif isinstance(step, str) and step == "again":
                held.again()
            else:
                held.do(step)
        copies.append(held.copy())
    return tuple(copies)
