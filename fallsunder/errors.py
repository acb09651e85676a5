"""The errors of the program: each keeps what it was made with in attributes of these names."""


class FallsError(ValueError):
    """The base class of all errors of the program."""


class BadRatio(FallsError):
    """What is passed is no ratio."""

    def __init__(self, thing):
        super().__init__(f"no part of a ratio: {thing!r}")
        self.thing = thing


class BadName(FallsError):
    """A name is none."""

    def __init__(self, name):
        super().__init__(f"no name: {name!r}")
        self.name = name


class BadStock(FallsError):
    """A part of a stock has not the form that it needs."""

    def __init__(self, part):
        super().__init__(f"no such part of a stock: {part}")
        self.part = part


class Twice(FallsError):
    """A name has come already."""

    def __init__(self, name):
        super().__init__(f"the name has come already: {name!r}")
        self.name = name


class Unknown(FallsError):
    """A name is not known where it is asked."""

    def __init__(self, name):
        super().__init__(f"not known: {name!r}")
        self.name = name


class BadGood(FallsError):
    """A node of a good is none."""

    def __init__(self, place):
        super().__init__(f"no node of a good at {place}")
        self.place = place


class NoPlace(FallsError):
    """A good does not have the place."""

    def __init__(self, place):
        super().__init__(f"no such place: {place!r}")
        self.place = place


class BadNumber(FallsError):
    """A number is none of those that may stand there."""

    def __init__(self, number):
        super().__init__(f"no such number: {number!r}")
        self.number = number


class OtherStock(FallsError):
    """An argument is over another stock."""

    def __init__(self, number):
        super().__init__(f"argument {number} is over another stock")
        self.number = number


class BadTerm(FallsError):
    """A term within a term is none."""

    def __init__(self, place):
        super().__init__(f"no term at {place}")
        self.place = place


class BadWord(FallsError):
    """A text goes on with a word that cannot stand there."""

    def __init__(self, number):
        super().__init__(f"bad word number {number}")
        self.number = number


class BadLine(FallsError):
    """A line of a text cannot stand there."""

    def __init__(self, line, word):
        super().__init__(f"bad line {line} at its word {word}")
        self.line = line
        self.word = word


class BareFalls(FallsError):
    """A heading is asked where no book is at hand."""

    def __init__(self, heading):
        super().__init__(f"falls without a book: {heading!r}")
        self.heading = heading


class BadBook(FallsError):
    """A part of a book has not the form that it needs."""

    def __init__(self, part):
        super().__init__(f"no such part of a book: {part}")
        self.part = part


class BadNote(FallsError):
    """A note is none."""

    def __init__(self, number):
        super().__init__(f"no note: number {number}")
        self.number = number


class BadRule(FallsError):
    """A rule of order is none."""

    def __init__(self, word):
        super().__init__(f"no rule: {word!r}")
        self.word = word


class NoHeading(FallsError):
    """A book does not have the heading."""

    def __init__(self, name):
        super().__init__(f"no such heading: {name!r}")
        self.name = name


class NoRow(FallsError):
    """There is no such row."""

    def __init__(self, row):
        super().__init__(f"no such row: {row!r}")
        self.row = row


class BadRow(FallsError):
    """A row is none, or is not there."""

    def __init__(self, number):
        super().__init__(f"no such row: {number!r}")
        self.number = number


class NoGood(FallsError):
    """No good is in question."""

    def __init__(self, known):
        super().__init__("no good is in question")
        self.known = known


class OtherRoot(FallsError):
    """Two goods have different roots."""

    def __init__(self, other):
        super().__init__(f"another root: {other!r}")
        self.other = other


class Undecided(FallsError):
    """Two goods have the same answers and different results."""

    def __init__(self, first, second):
        super().__init__("the questions do not settle the book")
        self.first = first
        self.second = second


class BadPlan(FallsError):
    """A plan is none."""

    def __init__(self, place):
        super().__init__(f"no plan at {place}")
        self.place = place


class BadDeed(FallsError):
    """A deed of a new edition is none."""

    def __init__(self, number):
        super().__init__(f"no deed: number {number}")
        self.number = number


class BadOpen(FallsError):
    """A node of an open good is none."""

    def __init__(self, place):
        super().__init__(f"no node of an open good at {place}")
        self.place = place


class BadPrices(FallsError):
    """A price of changes is none."""

    def __init__(self, part):
        super().__init__(f"no price: {part}")
        self.part = part


class NoWay(FallsError):
    """No change leads under the heading."""

    def __init__(self, heading):
        super().__init__(f"no change leads under {heading!r}")
        self.heading = heading


class BadZone(FallsError):
    """A zone is none."""

    def __init__(self, number):
        super().__init__(f"no zone: number {number}")
        self.number = number


class BadRates(FallsError):
    """A part of rates is none."""

    def __init__(self, part):
        super().__init__(f"no such part of rates: {part}")
        self.part = part


class BadWay(FallsError):
    """A way of bringing in is none, or does not fit the good."""

    def __init__(self, place):
        super().__init__(f"no way at {place}")
        self.place = place


class BadDay(FallsError):
    """A day is none."""

    def __init__(self, day):
        super().__init__(f"no such day: {day!r}")
        self.day = day


class NoEdition(FallsError):
    """No edition is in force on the day."""

    def __init__(self, day):
        super().__init__(f"no edition is in force on the day {day}")
        self.day = day


class NoDeed(FallsError):
    """A deed of a house is none."""

    def __init__(self, word):
        super().__init__(f"no such deed: {word!r}")
        self.word = word


class Forged(FallsError):
    """Two unlike letters have the same office and number."""

    def __init__(self, office, number):
        super().__init__(f"two letters of {office} have the number {number}")
        self.office = office
        self.number = number
