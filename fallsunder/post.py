"""Posts: letters of offices, which make a house whatever order they come in."""

from fallsunder.checks import is_number
from fallsunder.errors import BadDay, BadNumber, FallsError, Forged, OtherStock, Unknown
from fallsunder.house import House
from fallsunder.housedeeds import LENGTHS, check_form, is_day
from fallsunder.stocks import check_names

# how many entries the deed of a letter has: also that of a closing
CLOSE_LENGTH = 2


class Post:
    """The letters of some offices over a stock; known are those that are there from the beginning."""

    def __init__(self, stock, offices, *, known=None):
        check_names(offices)
        self.stock = stock
        self.offices = tuple(offices)
        self._letters = {} if known is None else {key: deed for key, deed in known.items()}

    @property
    def many(self):
        """How many letters there are."""
        return len(self._letters)

    def __eq__(self, other):
        if not isinstance(other, Post) or self.stock != other.stock or self.offices != other.offices:
            return False
        if len(self._letters) != len(other._letters):
            return False
        return all([key in other._letters and same_things(deed, other._letters[key])
                    for key, deed in self._letters.items()])

    def __or__(self, other):
        if not isinstance(other, Post):
            raise TypeError("a post is joined with posts alone")
        if self.stock != other.stock or self.offices != other.offices:
            raise OtherStock(1)
        for key in sorted(self._letters):
            if key in other._letters and not same_things(self._letters[key], other._letters[key]):
                raise Forged(key[0], key[1])
        both = {key: deed for letters in (self._letters, other._letters) for key, deed in letters.items()}
        return Post(self.stock, self.offices, known=both)

    def take(self, office, number, deed):
        """Take a letter; is it new?"""
        if not isinstance(office, str) or office not in self.offices:
            raise Unknown(office)
        if not is_number(number) or number < 1:
            raise BadNumber(number)
        check_form(deed, {**dict(LENGTHS), "close": CLOSE_LENGTH})
        if not is_day(deed[1]):
            raise BadDay(deed[1])
        kept = tuple([copied(thing) for thing in deed])
        if (office, number) in self._letters:
            if not same_things(self._letters[(office, number)], kept):
                raise Forged(office, number)
            return False
        self._letters[(office, number)] = kept
        return True

    def house(self):
        """The House of the letters."""
        return self._played()[0]

    def refused(self):
        """The letters (office, number) that were left out, in the order of their turns."""
        return self._played()[1]

    def settled(self):
        """The greatest settled day, -1 if there is none."""
        return min([self._closed_by(office) for office in self.offices])

    def _closed_by(self, office):
        """The greatest day that an office has closed by a letter all whose earlier letters have come, or -1."""
        last = -1
        number = 1
        while (office, number) in self._letters:
            deed = self._letters[(office, number)]
            if deed[0] == "close":
                last = max(last, deed[1])
            number += 1
        return last

    def _played(self):
        """The House of the letters, and those that were left out."""
        house = House(self.stock)
        left_out = []
        for _, office, number in sorted([(deed[1], *key) for key, deed in self._letters.items()]):
            deed = self._letters[(office, number)]
            if deed[0] != "close" and not is_done_by(house, deed):
                left_out.append((office, number))
        return (house, tuple(left_out))


def is_done_by(house, deed):
    """Does the house do the deed?"""
    try:
        house.do(deed)
    except FallsError:
        return False
    return True


def copied(thing):
    """A copy of what may have lists in it."""
    if isinstance(thing, list):
        return [copied(inner) for inner in thing]
    if isinstance(thing, tuple):
        return tuple([copied(inner) for inner in thing])
    return thing


def same_things(first, second):
    """Are two things that may have lists and tuples in them the same? True is no 1."""
    stack = [(first, second)]
    while stack:
        one, other = stack.pop()
        if isinstance(one, (list, tuple)):
            if is_unlike_list(one, other):
                return False
            stack.extend(list(zip(one, other)))
        elif isinstance(one, bool) != isinstance(other, bool) or one != other:
            return False
    return True


def is_unlike_list(one, other):
    """Is a list or tuple not of the same sort and length as the other thing?"""
    if isinstance(one, list) != isinstance(other, list) or not isinstance(other, (list, tuple)):
        return True
    return len(one) != len(other)
